/-
  The disk does what the document's disk does: the law's walk.
-/
import Derived.Test.YtfobdkhmffphmaaDkr
import Derived.Test.YtfobdkhmffphmaaDka
import Derived.Test.YtfobdkhmffphmaaStrO
namespace Go.Proofs.Ytfobdkhmffphmaa
open Go.RowKit
set_option linter.unusedSimpArgs false
set_option linter.unusedVariables false
set_option maxRecDepth 100000

section
variable {ops : Array Oper} {o : Oper} {a : Act} {w : World} {K : Act → World → Prop} {Q : Exit → Act → World → Prop}
theorem step_textD (hw : Region.wanted o (yielded ops a.tmps) = true) (x : Operand) (ho : o.op = .convert 27 9 x) (v : Value) (xs : List Int) (hx : a.eval x = v) (hb : Bt w v xs)
    (h : K (a.put o.dst (.string (txt xs))) w) : if Region.wanted o (yielded ops a.tmps) = true then Oper.wp Try.prog o a w K Q else K (a.put o.dst undef) w := by
  rw [if_pos hw]
  unfold Oper.wp execOp
  simp only [ho, hx, Bt.text hb, Sem.run_bind, Sem.run_pure, Result.andThen_ok]
  exact h
end
theorem own8_ne {w : World} {B r : Nat} {v : Value} {xs : List Int} {o n : ByteArray} (h : Own8 w B v xs) (hr : RAt w r o n) : ∀ k, v.ownBlock = some k → k ≠ r := by
  rintro k hk rfl
  have hh : w.heap[k]? = some (.cells _ 30 _) := hr
  rcases h.2 with ⟨rfl, _⟩ | ⟨g, cap, cur, rfl, _, hg, _⟩
  · cases hk
  · simp [Value.ownBlock] at hk
    subst hk
    rw [hh] at hg
    simp only [Option.some.injEq, Obj.cells.injEq] at hg
    exact absurd hg.2.1 (by decide)
theorem DAt.ne {w : World} {B p r last : Nat} {v : Value} {bs : List Int} {o n : ByteArray} (h : DAt w B p v bs last) (hr : RAt w r o n) : p ≠ r := by
  rintro rfl
  have hh : w.heap[p]? = some (.cells _ 30 _) := hr
  obtain ⟨cs, fr, hg⟩ := h.blk
  rw [hh] at hg
  simp only [Option.some.injEq, Obj.cells.injEq] at hg
  exact absurd hg.2.1 (by decide)
theorem RAt.foot {w w' : World} {B p r last : Nat} {v : Value} {bs : List Int} {o n : ByteArray} (hr : RAt w r o n) (h : DAt w B p v bs last) (hf : Foot w w' p v) : RAt w' r o n :=
  (hf.block r hr.lt (Ne.symm (h.ne hr)) (fun e => own8_ne h.own hr r e.symm rfl)).trans hr
theorem DAt.fr {w w' : World} {B p r last : Nat} {v : Value} {bs : List Int} {o n : ByteArray} (h : DAt w B p v bs last) (hr : RAt w r o n) (hf : Fr w w' r) : DAt w' B p v bs last :=
  h.keep hf.size (hf.block p h.lt (h.ne hr)) (fun k hk => hf.block k (h.own.lt k hk) (own8_ne h.own hr k hk))
theorem Fr.toBelow {w w' : World} {r B : Nat} (h : Fr w w' r) (hr : B ≤ r) (hB : B ≤ w.heap.size) : Below B w w' := ⟨h.os, h.tape, h.output, h.size, fun k hk => h.block k (by omega) (by omega)⟩
theorem byt_nil : byt ⟨#[]⟩ = [] := rfl
theorem byt_two (o n : ByteArray) : byt (o ++ n) = byt o ++ byt n := byt_append o n
theorem byt_cut (s : ByteArray) (k : Nat) : byt (s.extract 0 k) = (byt s).take k := by rw [byt_extract]; simp
theorem crash_pure (o n : ByteArray) (K : Nat) : (byt (o ++ n)).take (o.size + K) = byt (o ++ n.extract 0 K) := by
  rw [byt_two, byt_two, byt_cut, List.take_append, byt_length, Nat.add_sub_cancel_left, List.take_of_length_le (by rw [byt_length]; omega)]
theorem bk_below2 {w w' : World} {r : Nat} {o n : ByteArray} (h : RAt w r o n) (hb : Below w.heap.size w w') : RAt w' r o n := Bk.below h hb
theorem allN_rng {b : List Int} (h : ∀ x ∈ b, 0 ≤ x ∧ x ≤ 255) : ∀ X ∈ allN b, ∀ x ∈ X, 0 ≤ x ∧ x ≤ 255 := by
  have key : ∀ (f : Nat) (b : List Int), (∀ x ∈ b, 0 ≤ x ∧ x ≤ 255) → ∀ X ∈ allF f b, ∀ x ∈ X, 0 ≤ x ∧ x ≤ 255 := by
    intro f
    induction f with
    | zero => intro b _ X hX; simp [allF] at hX
    | succ f ih =>
      intro b hb X hX
      unfold allF at hX
      split at hX
      · rcases List.mem_cons.1 hX with e | e
        · subst e; exact tk_range hb
        · exact ih _ (fun x hx => hb x (List.mem_of_mem_drop hx)) X e
      · cases hX
  exact key _ b h
def OvP (l : List Ac) (w : World) (e : Ending) (w' : World) : Prop := ∃ Q : Bool, Hid (e = .returned (.bool Q)) ∧ (Q = false → l.length ≤ 60 ∧ ∀ i (h : i < l.length), l[i].bd.size ≤ 60) ∧ Below w.heap.size w w'
def AcsAt (w : World) (a : Option Addr) (l : List Ac) : Prop := ∀ i (hi : i < l.length), ∃ (q off : Nat), a = some ⟨q, off, none⟩ ∧ q < w.heap.size ∧ l[i].bd.size ≤ maxLen ∧ ∀ j u, (acE l[i])[j]? = some u → w.cell? ⟨q, off + i * 3 + j, none⟩ = some u
set_option maxHeartbeats 4000000 in
theorem dover_any (a : Option Addr) (N c : Nat) (l : List Ac) (W w : World) (hN : l.length = N) (hN63 : N ≤ 9223372036854775807) (hb : Below W.heap.size W w) (h : AcsAt W a l) : Calls Try.prog 5 #[.slice a N c] w (OvP l w) := by
  have HR := Lib.hid h
  have HN := Lib.hid hN
  have HW := Lib.hid hb
  clear h hN hb
  go_enter Try.func5, Try.ntmps5
  go_wp2_with fail
  go_loopw [3] (fun i wr => ∃ k : Nat, k ≤ N ∧ k ≤ 61 ∧ i = .int .i64 k ∧ Hid (Below w.heap.size w wr) ∧ Hid (∀ i (h : i < l.length), i < k → l[i].bd.size ≤ 60)) (fun i _ => N - (intOf i).toNat)
  case atStart => exact ⟨0, Nat.zero_le _, by omega, rfl, Lib.hid (Below.refl _ _), Lib.hid (fun i h h0 => by omega)⟩
  case round =>
    obtain ⟨k, hk, hk61, rfl, hB, hF⟩ := hrel
    by_cases hlt : k < N
    · have hi1 : (k : Int) < (N : Int) := by omega
      have hd1 : decide ((k : Int) < (N : Int)) = true := decide_eq_true hi1
      have hd1n : decide (k < N) = true := decide_eq_true hlt
      by_cases h60 : k ≤ 60
      · have hi2 : (k : Int) ≤ 60 := by omega
        have hd2 : decide ((k : Int) ≤ 60) = true := decide_eq_true hi2
        have hd2n : decide (k ≤ 60) = true := decide_eq_true h60
        have hkl : k < l.length := by rw [HN.out]; exact hlt
        obtain ⟨q, off, rfl, hq, hz, hc⟩ := HR.out k hkl
        have hcell := (hB.out.cell (p := ⟨q, off + k * 3 + 1, none⟩) (Nat.lt_of_lt_of_le hq HW.out.size)).trans ((HW.out.cell (p := ⟨q, off + k * 3 + 1, none⟩) hq).trans (hc 1 _ rfl))
        obtain ⟨s, hs⟩ : ∃ s, l[k].bd = s := ⟨_, rfl⟩
        rw [hs] at hcell hz
        have hz63 : s.size ≤ 9223372036854775807 := by unfold maxLen at hz; omega
        have HS := Lib.hid hs
        clear hc hz hs
        by_cases p : (60 : Int) < (s.size : Int)
        · have pd : decide ((60 : Int) < (s.size : Int)) = true := decide_eq_true p
          have pdn : decide (60 < s.size) = true := decide_eq_true (by omega)
          go_wp2_with fail
          go_ret
          exact ⟨true, Lib.hid rfl, (fun e => by cases e), hB.out⟩
        · have pd : decide ((60 : Int) < (s.size : Int)) = false := decide_eq_false p
          have pdn : decide (60 < s.size) = false := decide_eq_false (by omega)
          have HF2 : Hid (∀ i (h : i < l.length), i < k + 1 → l[i].bd.size ≤ 60) := Lib.hid (fun i h h0 => by
            by_cases e : i < k
            · exact hF.out i h e
            · have : i = k := by omega
              subst this
              rw [HS.out]; omega)
          go_wp2_with fail
          clear hcell
          go_roundw
          case rel => exact ⟨k + 1, by omega, by omega, by go_num, hB, HF2⟩
          case measure => simp [intOf]; omega
      · have hi2 : ¬ (k : Int) ≤ 60 := by omega
        have hd2 : decide ((k : Int) ≤ 60) = false := decide_eq_false hi2
        have hd2n : decide (k ≤ 60) = false := decide_eq_false h60
        have hd3 : decide ((60 : Int) < (N : Int)) = true := decide_eq_true (by omega)
        have hd3n : decide (60 < N) = true := decide_eq_true (by omega)
        go_wp2_with fail
        go_ret
        exact ⟨true, Lib.hid (by first | rfl | simp [hd3, hd3n]), (fun e => by cases e), hB.out⟩
    · have e : k = N := by omega
      subst e
      have hd1 : decide ((k : Int) < (k : Int)) = false := decide_eq_false (by omega)
      have hd1n : decide (k < k) = false := decide_eq_false (by omega)
      by_cases h60 : k ≤ 60
      · have hd3 : decide ((60 : Int) < (k : Int)) = false := decide_eq_false (by omega)
        have hd3n : decide (60 < k) = false := decide_eq_false (by omega)
        go_wp2_with fail
        go_ret
        exact ⟨false, Lib.hid (by first | rfl | simp [hd3, hd3n]), (fun _ => ⟨by rw [HN.out]; exact h60, fun i h => hF.out i h (by have := HN.out; omega)⟩), hB.out⟩
      · have hd3 : decide ((60 : Int) < (k : Int)) = true := decide_eq_true (by omega)
        have hd3n : decide (60 < k) = true := decide_eq_true (by omega)
        go_wp2_with fail
        go_ret
        exact ⟨true, Lib.hid (by first | rfl | simp [hd3, hd3n]), (fun e => by cases e), hB.out⟩
set_option maxHeartbeats 16000000 in
theorem does_law (f : ByteArray) (a : Option Addr) (N c : Nat) (l : List Ac) (W : World) (hf : f.size ≤ maxLen) (hN : l.length = N) (hN63 : N ≤ 9223372036854775807) (h : AcsAt W a l) :
    Calls Try.prog 3 #[.string f, .slice a N c] W fun e w' => e = .returned (.bool true) ∧ Below W.heap.size W w' := by
  have HA := Lib.hid h
  have HN := Lib.hid hN
  have hf63 : f.size ≤ 9223372036854775807 := by unfold maxLen at hf; omega
  clear h hf
  go_enter Try.func3, Try.ntmps3
  go_wp2_with fail
  refine (works_any W).mono ?_
  rintro e w1 ⟨rfl, hb⟩
  have HB1 := Lib.hid hb
  clear hb
  go_wp2_with fail
  refine (dover_any a N c l W w1 hN hN63 HB1.out HA.out).mono ?_
  rintro e w2 ⟨Q, he, hQ, hb⟩
  rw [he.out]
  have HB2 := Lib.hid (below_self HB1.out hb)
  clear he hb HB1 hN
  cases Q with
  | true =>
    go_wp2_with fail
    go_ret
    exact ⟨rfl, HB2.out⟩
  | false =>
  have HQ := Lib.hid (hQ rfl)
  clear hQ
  by_cases q5 : (500 : Int) < (f.size : Int)
  · have d5 : decide ((500 : Int) < (f.size : Int)) = true := decide_eq_true q5
    have d5n : decide (500 < f.size) = true := decide_eq_true (by omega)
    go_wp2_with fail
    go_ret
    exact ⟨rfl, HB2.out⟩
  have d5 : decide ((500 : Int) < (f.size : Int)) = false := decide_eq_false q5
  have d5n : decide (500 < f.size) = false := decide_eq_false (by omega)
  have HF5 : Hid (f.size ≤ 500) := Lib.hid (by omega)
  go_wp2_with (refine wpList_bytes rfl 9 27 _ rfl 5 Try.underlying9 Try.underlying27 Try.underlying5 f rfl hf63 ?_)
  intro v3 w3 hbt hz3 hb3
  have HBT := Lib.hid hbt
  have HB3 := Lib.hid (below_self HB2.out hb3)
  clear hbt hz3 hb3 d5 d5n q5 HB2
  go_wp2_with fail
  refine (dof_any v3 (byt f) w3 HBT.out (by rw [byt_length]; have := HF5.out; omega)).mono ?_
  rintro e w4 ⟨p, v, he, hd, hb⟩
  rw [he.out]
  obtain ⟨B, hB0⟩ : ∃ B, w3.heap.size = B := ⟨_, rfl⟩
  have hWB : W.heap.size ≤ B := hB0 ▸ HB3.out.size
  have HD4 : Hid (DAt w4 B p v (byt f) f.size) := Lib.hid (by rw [← hB0]; rw [byt_length] at hd; exact hd)
  have HB4 := Lib.hid (below_self HB3.out hb)
  clear he hd hb hB0 HBT HB3
  obtain ⟨Z, hZ⟩ : ∃ Z, w4.alloc (.cells #[.string f, .string ⟨#[]⟩] 30) = Z := ⟨_, rfl⟩
  obtain ⟨r, hr⟩ : ∃ r, w4.heap.size = r := ⟨_, rfl⟩
  have HRz : Hid (RAt Z r f ⟨#[]⟩) := Lib.hid (by rw [← hZ, ← hr]; exact Bk.new w4 _ [.string f, .string ⟨#[]⟩])
  have hwz : Below w4.heap.size w4 Z := by rw [← hZ]; exact (Below.refl _ _).alloc (Nat.le_refl _) _
  have HDz : Hid (DAt Z B p v (byt (f ++ ⟨#[]⟩)) f.size) := Lib.hid (by rw [byt_two, byt_nil, List.append_nil]; exact HD4.out.below hwz)
  have HBz := Lib.hid (HB4.out.trans (hwz.mono HB4.out.size))
  have hWr : W.heap.size ≤ r := hr ▸ HB4.out.size
  clear hwz HD4 HB4
  go_wp2_with fail
  try rw [hZ]
  try simp only [hr]
  clear hZ hr
  go_loopw [8] (fun i wr => ∃ (k : Nat) (o n : ByteArray) (v : Value), k ≤ N ∧ i = .int .i64 k ∧ Hid (o.size + n.size ≤ 500 + 68 * k) ∧ Hid (DAt wr B p v (byt (o ++ n)) o.size) ∧ Hid (RAt wr r o n) ∧ Hid (Below W.heap.size W wr)) (fun i _ => N - (intOf i).toNat)
  case atStart => exact ⟨0, f, ⟨#[]⟩, v, Nat.zero_le _, rfl, Lib.hid (by have := HF5.out; show f.size + 0 ≤ _; omega), HDz, HRz, HBz⟩
  case round =>
    clear HDz HRz HBz
    clear v
    obtain ⟨k, o, n, v, hk, rfl, HS, HD, HRr, hB⟩ := hrel
    by_cases hlt : k < N
    · have hi1 : (k : Int) < (N : Int) := by omega
      have hd1 : decide ((k : Int) < (N : Int)) = true := decide_eq_true hi1
      have hd1n : decide (k < N) = true := decide_eq_true hlt
      have hkl : k < l.length := by rw [HN.out]; exact hlt
      have hk60 : k ≤ 60 := by have := HQ.out.1; omega
      have HBd0 := HQ.out.2 k hkl
      obtain ⟨q, off, rfl, hq, hz, hc⟩ := HA.out k hkl
      obtain ⟨⟨κ, bd, kn⟩, hx⟩ : ∃ x, l[k] = x := ⟨_, rfl⟩
      rw [hx] at hc hz HBd0
      have HBd : Hid (bd.size ≤ 60) := Lib.hid HBd0
      have HBd63 : Hid (bd.size ≤ 9223372036854775807) := Lib.hid (by have := HBd.out; omega)
      have HC0 : Hid (W.cell? ⟨q, off + k * 3, none⟩ = some (.int .i64 κ)) := Lib.hid (hc 0 _ rfl)
      have HC1 : Hid (W.cell? ⟨q, off + k * 3 + 1, none⟩ = some (.string bd)) := Lib.hid (hc 1 _ rfl)
      have HC2 : Hid (W.cell? ⟨q, off + k * 3 + 2, none⟩ = some (.int .i64 kn)) := Lib.hid (hc 2 _ rfl)
      have hc0 := (hB.out.cell (p := ⟨q, off + k * 3, none⟩) hq).trans HC0.out
      have hc1 := (hB.out.cell (p := ⟨q, off + k * 3 + 1, none⟩) hq).trans HC1.out
      have hc2 := (hB.out.cell (p := ⟨q, off + k * 3 + 2, none⟩) hq).trans HC2.out
      have HJb : Hid ((byt (o ++ n)).length ≤ 1000000000) := Lib.hid (by rw [byt_length, ByteArray.size_append]; have := HS.out; omega)
      clear hc hz hx HBd0 HC0
      have h5 : ¬ (5 : Int) = 0 := by decide
      obtain ⟨m, hm⟩ : ∃ m, Int.tmod κ 5 = m := ⟨_, rfl⟩
      by_cases m2 : m = 2
      · have m2d : decide (m = 2) = true := decide_eq_true m2
        have m2b : (m == 2) = true := by simp [m2]
        go_wp2_with fail
        refine (sync_any B p v _ _ wr HD.out HJb.out).mono ?_
        rintro e w2 ⟨he, hd, hf⟩
        rw [he.out]
        have HD2 := Lib.hid hd
        have HR2 := Lib.hid (HRr.out.foot HD.out hf)
        have HB2 := Lib.hid (hB.out.trans ((HD.out.foot hf).mono hWB))
        clear he hd hf
        go_wp2_with fail
        refine (rsync_any HR2.out (by have := HS.out; omega)).mono ?_
        rintro e w3 ⟨he, hr, hf⟩
        rw [he.out]
        obtain ⟨o2, ho2⟩ : ∃ o2, o ++ n = o2 := ⟨_, rfl⟩
        obtain ⟨n2, hn2⟩ : ∃ n2 : ByteArray, ⟨#[]⟩ = n2 := ⟨_, rfl⟩
        obtain ⟨J, hJ0⟩ : ∃ J, byt (o ++ n) = J := ⟨_, rfl⟩
        rw [ho2, hn2] at hr
        have HJ : Hid (byt (o2 ++ n2) = J) := Lib.hid (by rw [← hn2, byt_two, byt_nil, List.append_nil, ← ho2]; exact hJ0)
        have HS2 : Hid (o2.size + n2.size ≤ 500 + 68 * (k + 1)) := Lib.hid (by rw [← hn2, ← ho2, ByteArray.size_append]; have := HS.out; show _ + 0 ≤ _; omega)
        have HDY : Hid (DAt w3 B p v J o2.size) := Lib.hid (by
          have h := HD2.out.fr HR2.out hf
          rw [hJ0] at h
          have h2 : J.length = o2.size := by rw [← hJ0, byt_length, ← ho2]
          rw [h2] at h
          exact h)
        have HRY := Lib.hid hr
        have HBY := Lib.hid (HB2.out.trans (hf.toBelow hWr (Nat.le_trans hWB (Nat.le_of_lt (Nat.lt_of_le_of_lt HD2.out.low HD2.out.lt)))))
        clear he hr hf ho2 hn2 hJ0 HD2 HR2 HB2 HD HRr hB HS HJb
        have HJl : Hid (J.length ≤ 1000000) := Lib.hid (by rw [← HJ.out, byt_length, ByteArray.size_append]; have := HS2.out; omega)
        have HJz : Hid ((J.length : Int) - (o2.size : Int) = (n2.size : Int)) := Lib.hid (by rw [← HJ.out, byt_length, ByteArray.size_append]; omega)
        have HTX : Hid (txt J = o2 ++ n2) := Lib.hid (by rw [← HJ.out, txt_byt])
        obtain ⟨Y, hY⟩ : ∃ Y, w3 = Y := ⟨_, rfl⟩
        rw [hY]
        rw [hY] at HDY HRY HBY
        clear hY
        have HBy : Hid (∀ V : World, Below Y.heap.size Y V → Calls Try.prog 16 #[.pointer (some ⟨p, 0, none⟩)] V (CpP J V)) := Lib.hid fun V hV => dbytes_any B p _ J _ V (HDY.out.below hV) (by have := HJl.out; omega)
        have HDi : Hid (∀ V : World, Below Y.heap.size Y V → Calls Try.prog 17 #[.pointer (some ⟨p, 0, none⟩)] V fun e w' => e = .returned (.int .i64 (n2.size : Int)) ∧ Below V.heap.size V w') := Lib.hid fun V hV => by
          have h := dirty_any B p _ J o2.size V (HDY.out.below hV) (by have := HJl.out; omega) (by have := HJz.out; omega)
          rw [HJz.out] at h
          exact h
        have HC : Hid (∀ w' : World, Below Y.heap.size Y w' → Below Y.heap.size Y w' ∧ w'.cell? ⟨r, 0, none⟩ = some (.string o2) ∧ w'.cell? ⟨r, 1, none⟩ = some (.string n2)) := Lib.hid fun w' hb => ⟨hb, (bk_below2 HRY.out hb).cell 0, (bk_below2 HRY.out hb).cell 1⟩
        have hz1 : ¬ (9223372036854775807 : Int) < (o2.size : Int) + (n2.size : Int) := by have := HS2.out; omega
        have hz2 : ¬ 9223372036854775807 < o2.size + n2.size := by have := HS2.out; omega
        have hq1 : ((o2 ++ n2).toList != (o2 ++ n2).toList) = false := by simp
        have hq3 : ((n2.size : Int) != (n2.size : Int)) = false := by simp
        go_wp2_with fail
        refine wp_region_held_drew (S := (fun w' => Below Y.heap.size Y w' ∧ w'.cell? ⟨r, 0, none⟩ = some (.string o2) ∧ w'.cell? ⟨r, 1, none⟩ = some (.string n2))) (by kernel_rfl) ?_ (fun hHeld => ?_)
        · (first
          | exact HC.out _ hs2
          | exact HC.out _ hs1
          | exact HC.out _ (Below.refl _ _).drew
          | exact HC.out _ (Below.refl _ _)
          | fail)
        refine wpAnyH_take (i := 0) (v := ?_) rfl (by kernel_rfl) (by kernel_rfl) (by kernel_rfl) (fun _ _ _ h => h) (Or.inl ⟨by rfl, ?_⟩) (by assumption) ?_
        rotate_left
        · (intro w hSw; (try dsimp only at hSw); go_simp; try rfl)
        try simp only [Act.put, List.setIfInBounds_toArray, List.set_cons_zero, List.set_cons_succ, List.getElem_toArray, List.getElem_cons_zero, List.getElem_cons_succ]
        refine wpAnyH_take (i := 3) (v := ?_) rfl (by kernel_rfl) (by kernel_rfl) (by kernel_rfl) (fun _ _ _ h => h) (Or.inl ⟨by rfl, ?_⟩) (by assumption) ?_
        rotate_left
        · (intro w hSw; (try dsimp only at hSw); go_simp; try rfl)
        try simp only [Act.put, List.setIfInBounds_toArray, List.set_cons_zero, List.set_cons_succ, List.getElem_toArray, List.getElem_cons_zero, List.getElem_cons_succ]
        refine wpAnyH_take (i := 4) (v := ?_) rfl (by kernel_rfl) (by kernel_rfl) (by kernel_rfl) (fun _ _ _ h => h) (Or.inl ⟨by rfl, ?_⟩) (by assumption) ?_
        rotate_left
        · (intro w hSw; (try dsimp only at hSw); go_simp; try rfl)
        try simp only [Act.put, List.setIfInBounds_toArray, List.set_cons_zero, List.set_cons_succ, List.getElem_toArray, List.getElem_cons_zero, List.getElem_cons_succ]
        refine wpAnyH_take (i := 5) (v := ?_) rfl (by kernel_rfl) (by kernel_rfl) (by kernel_rfl) (fun _ _ _ h => h) (Or.inl ⟨by rfl, ?_⟩) (by assumption) ?_
        rotate_left
        · (intro w hSw; (try dsimp only at hSw); go_simp; try rfl)
        try simp only [Act.put, List.setIfInBounds_toArray, List.set_cons_zero, List.set_cons_succ, List.getElem_toArray, List.getElem_cons_zero, List.getElem_cons_succ]
        refine wpAnyH_take (i := 6) (v := ?_) rfl (by kernel_rfl) (by kernel_rfl) (by kernel_rfl) (fun _ _ _ h => h) (Or.inl ⟨by rfl, ?_⟩) (by assumption) ?_
        rotate_left
        · (intro w hSw; (try dsimp only at hSw); go_simp; try rfl)
        try simp only [Act.put, List.setIfInBounds_toArray, List.set_cons_zero, List.set_cons_succ, List.getElem_toArray, List.getElem_cons_zero, List.getElem_cons_succ]
        refine wpAnyH_take (i := 7) (v := ?_) rfl (by kernel_rfl) (by kernel_rfl) (by kernel_rfl) (fun _ _ _ h => h) (Or.inl ⟨by rfl, ?_⟩) (by assumption) ?_
        rotate_left
        · (intro w hSw; (try dsimp only at hSw); go_simp; try rfl)
        try simp only [Act.put, List.setIfInBounds_toArray, List.set_cons_zero, List.set_cons_succ, List.getElem_toArray, List.getElem_cons_zero, List.getElem_cons_succ]
        refine wpAnyH_take (i := 8) (v := ?_) rfl (by kernel_rfl) (by kernel_rfl) (by kernel_rfl) (fun _ _ _ h => h) (Or.inl ⟨by rfl, ?_⟩) (by assumption) ?_
        rotate_left
        · (intro w hSw; (try dsimp only at hSw); go_simp; try rfl)
        try simp only [Act.put, List.setIfInBounds_toArray, List.set_cons_zero, List.set_cons_succ, List.getElem_toArray, List.getElem_cons_zero, List.getElem_cons_succ]
        refine wpAnyH_take (i := 9) (v := ?_) rfl (by kernel_rfl) (by kernel_rfl) (by kernel_rfl) (fun _ _ _ h => h) (Or.inl ⟨by rfl, ?_⟩) (by assumption) ?_
        rotate_left
        · (intro w hSw; (try dsimp only at hSw); go_simp; try rfl)
        try simp only [Act.put, List.setIfInBounds_toArray, List.set_cons_zero, List.set_cons_succ, List.getElem_toArray, List.getElem_cons_zero, List.getElem_cons_succ]
        refine wpAnyH_take (i := 10) (v := ?_) rfl (by kernel_rfl) (by kernel_rfl) (by kernel_rfl) (fun _ _ _ h => h) (Or.inl ⟨by rfl, ?_⟩) (by assumption) ?_
        rotate_left
        · (intro w hSw; (try dsimp only at hSw); go_simp; try rfl)
        try simp only [Act.put, List.setIfInBounds_toArray, List.set_cons_zero, List.set_cons_succ, List.getElem_toArray, List.getElem_cons_zero, List.getElem_cons_succ]
        refine wpAnyH_take (i := 11) (v := ?_) rfl (by kernel_rfl) (by kernel_rfl) (by kernel_rfl) (fun _ _ _ h => h) (Or.inl ⟨by rfl, ?_⟩) (by assumption) ?_
        rotate_left
        · (intro w hSw; (try dsimp only at hSw); go_simp; try rfl)
        try simp only [Act.put, List.setIfInBounds_toArray, List.set_cons_zero, List.set_cons_succ, List.getElem_toArray, List.getElem_cons_zero, List.getElem_cons_succ]
        refine wpAnyH_ready (rs := [1]) (by kernel_rfl) (by simp) ?_
        refine (AllReadyH.cons rfl (fun K hK => ?_) AllReadyH.nil)
        go_simp
        (go_at_call 16; refine (HBy.out _ hHeld.1).mono ?_; rintro e wb ⟨vb, he, ho8, hbb⟩; have he := he.out; subst he; have hs1 : Below Y.heap.size Y wb := below_self hHeld.1 hbb)
        refine hK.out _ _ ?_ (fun hHeld => ?_)
        · (first
          | exact HC.out _ hs2
          | exact HC.out _ hs1
          | exact HC.out _ (Below.refl _ _).drew
          | exact HC.out _ (Below.refl _ _)
          | fail)
        clear hK K
        try simp only [Act.put, List.setIfInBounds_toArray, List.set_cons_zero, List.set_cons_succ, List.getElem_toArray, List.getElem_cons_zero, List.getElem_cons_succ]
        refine wpAnyH_ready (rs := [2]) (by kernel_rfl) (by simp) ?_
        refine (AllReadyH.cons rfl (fun K hK => ?_) AllReadyH.nil)
        refine step_textD (by rfl) _ rfl vb J rfl (ho8.bt (by have := HJl.out; omega)) ?_
        rw [HTX.out]
        refine hK.out _ _ ?_ (fun hHeld => ?_)
        · (first
          | exact HC.out _ hs2
          | exact HC.out _ hs1
          | exact HC.out _ (Below.refl _ _).drew
          | exact HC.out _ (Below.refl _ _)
          | fail)
        clear hK K
        try simp only [Act.put, List.setIfInBounds_toArray, List.set_cons_zero, List.set_cons_succ, List.getElem_toArray, List.getElem_cons_zero, List.getElem_cons_succ]
        refine wpAnyH_take (i := 12) (v := ?_) rfl (by kernel_rfl) (by kernel_rfl) (by kernel_rfl) (fun _ _ _ h => h) (Or.inl ⟨by rfl, ?_⟩) (by assumption) ?_
        rotate_left
        · (intro w hSw; (try dsimp only at hSw); go_simp; try rfl)
        try simp only [Act.put, List.setIfInBounds_toArray, List.set_cons_zero, List.set_cons_succ, List.getElem_toArray, List.getElem_cons_zero, List.getElem_cons_succ]
        refine wpAnyH_take (i := 13) (v := ?_) rfl (by kernel_rfl) (by kernel_rfl) (by kernel_rfl) (fun _ _ _ h => h) (Or.inl ⟨by rfl, ?_⟩) (by assumption) ?_
        rotate_left
        · (intro w hSw; (try dsimp only at hSw); go_simp; try rfl)
        try simp only [Act.put, List.setIfInBounds_toArray, List.set_cons_zero, List.set_cons_succ, List.getElem_toArray, List.getElem_cons_zero, List.getElem_cons_succ]
        refine wpAnyH_take (i := 14) (v := ?_) rfl (by kernel_rfl) (by kernel_rfl) (by kernel_rfl) (fun _ _ _ h => h) (Or.inl ⟨by rfl, ?_⟩) (by assumption) ?_
        rotate_left
        · (intro w hSw; (try dsimp only at hSw); go_simp; try rfl)
        try simp only [Act.put, List.setIfInBounds_toArray, List.set_cons_zero, List.set_cons_succ, List.getElem_toArray, List.getElem_cons_zero, List.getElem_cons_succ]
        refine wpAnyH_take (i := 16) (v := ?_) rfl (by kernel_rfl) (by kernel_rfl) (by kernel_rfl) (fun _ _ _ h => h) (Or.inl ⟨by rfl, ?_⟩) (by assumption) ?_
        rotate_left
        · (intro w hSw; (try dsimp only at hSw); go_simp; try rfl)
        try simp only [Act.put, List.setIfInBounds_toArray, List.set_cons_zero, List.set_cons_succ, List.getElem_toArray, List.getElem_cons_zero, List.getElem_cons_succ]
        refine wpAnyH_take (i := 17) (v := ?_) rfl (by kernel_rfl) (by kernel_rfl) (by kernel_rfl) (fun _ _ _ h => h) (Or.inl ⟨by rfl, ?_⟩) (by assumption) ?_
        rotate_left
        · (intro w hSw; (try dsimp only at hSw); go_simp; try rfl)
        try simp only [Act.put, List.setIfInBounds_toArray, List.set_cons_zero, List.set_cons_succ, List.getElem_toArray, List.getElem_cons_zero, List.getElem_cons_succ]
        refine wpAnyH_take (i := 18) (v := ?_) rfl (by kernel_rfl) (by kernel_rfl) (by kernel_rfl) (fun _ _ _ h => h) (Or.inl ⟨by rfl, ?_⟩) (by assumption) ?_
        rotate_left
        · (intro w hSw; (try dsimp only at hSw); go_simp; try rfl)
        try simp only [Act.put, List.setIfInBounds_toArray, List.set_cons_zero, List.set_cons_succ, List.getElem_toArray, List.getElem_cons_zero, List.getElem_cons_succ]
        refine wpAnyH_take (i := 19) (v := ?_) rfl (by kernel_rfl) (by kernel_rfl) (by kernel_rfl) (fun _ _ _ h => h) (Or.inl ⟨by rfl, ?_⟩) (by assumption) ?_
        rotate_left
        · (intro w hSw; (try dsimp only at hSw); go_simp; try rfl)
        try simp only [Act.put, List.setIfInBounds_toArray, List.set_cons_zero, List.set_cons_succ, List.getElem_toArray, List.getElem_cons_zero, List.getElem_cons_succ]
        refine wpAnyH_take (i := 20) (v := ?_) rfl (by kernel_rfl) (by kernel_rfl) (by kernel_rfl) (fun _ _ _ h => h) (Or.inl ⟨by rfl, ?_⟩) (by assumption) ?_
        rotate_left
        · (intro w hSw; (try dsimp only at hSw); go_simp; try rfl)
        try simp only [Act.put, List.setIfInBounds_toArray, List.set_cons_zero, List.set_cons_succ, List.getElem_toArray, List.getElem_cons_zero, List.getElem_cons_succ]
        refine wpAnyH_ready (rs := [15]) (by kernel_rfl) (by simp) ?_
        refine (AllReadyH.cons rfl (fun K hK => ?_) AllReadyH.nil)
        go_simp
        (go_at_call 17; refine (HDi.out _ hHeld.1).mono ?_; rintro e wd ⟨rfl, hbd⟩; have hs2 : Below Y.heap.size Y wd := below_self hHeld.1 hbd)
        refine hK.out _ _ ?_ (fun hHeld => ?_)
        · (first
          | exact HC.out _ hs2
          | exact HC.out _ hs1
          | exact HC.out _ (Below.refl _ _).drew
          | exact HC.out _ (Below.refl _ _)
          | fail)
        clear hK K
        try simp only [Act.put, List.setIfInBounds_toArray, List.set_cons_zero, List.set_cons_succ, List.getElem_toArray, List.getElem_cons_zero, List.getElem_cons_succ]
        refine wpAnyH_take (i := 21) (v := ?_) rfl (by kernel_rfl) (by kernel_rfl) (by kernel_rfl) (fun _ _ _ h => h) (Or.inl ⟨by rfl, ?_⟩) (by assumption) ?_
        rotate_left
        · (intro w hSw; (try dsimp only at hSw); go_simp; try rfl)
        try simp only [Act.put, List.setIfInBounds_toArray, List.set_cons_zero, List.set_cons_succ, List.getElem_toArray, List.getElem_cons_zero, List.getElem_cons_succ]
        refine wpAnyH_take (i := 22) (v := ?_) rfl (by kernel_rfl) (by kernel_rfl) (by kernel_rfl) (fun _ _ _ h => h) (Or.inl ⟨by rfl, ?_⟩) (by assumption) ?_
        rotate_left
        · (intro w hSw; (try dsimp only at hSw); go_simp; try rfl)
        try simp only [Act.put, List.setIfInBounds_toArray, List.set_cons_zero, List.set_cons_succ, List.getElem_toArray, List.getElem_cons_zero, List.getElem_cons_succ]
        refine wpAnyH_done (by kernel_rfl) ?_ _
        have HLast := Lib.hid (HBY.out.trans ((hs2).mono HBY.out.size))
        have HDn := Lib.hid (HDY.out.below hs2)
        have HRn := Lib.hid (bk_below2 HRY.out hs2)
        clear hs1 hs2 hbb hbd ho8 HC HBy HDi HTX
        go_wp2_with fail
        go_roundw
        case rel => exact ⟨k + 1, o2, n2, _, by omega, by go_num, HS2, by rw [HJ.out]; exact HDn, HRn, HLast⟩
        case measure => simp [intOf]; omega
      have m2d : decide (m = 2) = false := decide_eq_false m2
      have m2b : (m == 2) = false := by simp [m2]
      by_cases m3 : m = 3
      · have m3d : decide (m = 3) = true := decide_eq_true m3
        have m3b : (m == 3) = true := by simp [m3]
        go_wp2_with fail
        refine (crash_any B p v _ _ kn wr HD.out HJb.out (by rw [byt_length, ByteArray.size_append]; omega)).mono ?_
        rintro e w2 ⟨he, v2, hv2, hd, hf⟩
        rw [he.out]
        have HD2 := Lib.hid hd
        have HR2 := Lib.hid (HRr.out.foot HD.out hf)
        have HB2 := Lib.hid (hB.out.trans ((HD.out.foot hf).mono hWB))
        have hc2' := HB2.out.cell (p := ⟨q, off + k * 3 + 2, none⟩) hq |>.trans HC2.out
        clear he hd hf hv2
        go_wp2_with fail
        refine (rcrash_any kn HR2.out (by have := HS.out; omega)).mono ?_
        rintro e w3 ⟨he, hr, hf⟩
        rw [he.out]
        obtain ⟨o2, ho2⟩ : ∃ o2, o ++ n.extract 0 (kpN kn n.size) = o2 := ⟨_, rfl⟩
        obtain ⟨n2, hn2⟩ : ∃ n2 : ByteArray, ⟨#[]⟩ = n2 := ⟨_, rfl⟩
        obtain ⟨J, hJ0⟩ : ∃ J, (byt (o ++ n)).take (o.size + kpN kn ((byt (o ++ n)).length - o.size)) = J := ⟨_, rfl⟩
        rw [ho2, hn2] at hr
        have hJ1 : byt o2 = J := by
          have e1 : (byt (o ++ n)).length - o.size = n.size := by rw [byt_length, ByteArray.size_append]; omega
          rw [← hJ0, e1, ← ho2]
          exact (crash_pure o n _).symm
        have HJ : Hid (byt (o2 ++ n2) = J) := Lib.hid (by rw [← hn2, byt_two, byt_nil, List.append_nil]; exact hJ1)
        have HS2 : Hid (o2.size + n2.size ≤ 500 + 68 * (k + 1)) := Lib.hid (by rw [← hn2, ← ho2, ByteArray.size_append, ByteArray.size_extract]; have := HS.out; show _ + 0 ≤ _; omega)
        have HDY : Hid (DAt w3 B p v2 J o2.size) := Lib.hid (by
          have h := HD2.out.fr HR2.out hf
          rw [hJ0] at h
          have h2 : J.length = o2.size := by rw [← hJ1, byt_length]
          rw [h2] at h
          exact h)
        have HRY := Lib.hid hr
        have HBY := Lib.hid (HB2.out.trans (hf.toBelow hWr (Nat.le_trans hWB (Nat.le_of_lt (Nat.lt_of_le_of_lt HD2.out.low HD2.out.lt)))))
        clear he hr hf ho2 hn2 hJ0 hJ1 HD2 HR2 HB2 HD HRr hB HS HJb hc2' HC2 hq
        have HJl : Hid (J.length ≤ 1000000) := Lib.hid (by rw [← HJ.out, byt_length, ByteArray.size_append]; have := HS2.out; omega)
        have HJz : Hid ((J.length : Int) - (o2.size : Int) = (n2.size : Int)) := Lib.hid (by rw [← HJ.out, byt_length, ByteArray.size_append]; omega)
        have HTX : Hid (txt J = o2 ++ n2) := Lib.hid (by rw [← HJ.out, txt_byt])
        obtain ⟨Y, hY⟩ : ∃ Y, w3 = Y := ⟨_, rfl⟩
        rw [hY]
        rw [hY] at HDY HRY HBY
        clear hY
        have HBy : Hid (∀ V : World, Below Y.heap.size Y V → Calls Try.prog 16 #[.pointer (some ⟨p, 0, none⟩)] V (CpP J V)) := Lib.hid fun V hV => dbytes_any B p _ J _ V (HDY.out.below hV) (by have := HJl.out; omega)
        have HDi : Hid (∀ V : World, Below Y.heap.size Y V → Calls Try.prog 17 #[.pointer (some ⟨p, 0, none⟩)] V fun e w' => e = .returned (.int .i64 (n2.size : Int)) ∧ Below V.heap.size V w') := Lib.hid fun V hV => by
          have h := dirty_any B p _ J o2.size V (HDY.out.below hV) (by have := HJl.out; omega) (by have := HJz.out; omega)
          rw [HJz.out] at h
          exact h
        have HC : Hid (∀ w' : World, Below Y.heap.size Y w' → Below Y.heap.size Y w' ∧ w'.cell? ⟨r, 0, none⟩ = some (.string o2) ∧ w'.cell? ⟨r, 1, none⟩ = some (.string n2)) := Lib.hid fun w' hb => ⟨hb, (bk_below2 HRY.out hb).cell 0, (bk_below2 HRY.out hb).cell 1⟩
        have hz1 : ¬ (9223372036854775807 : Int) < (o2.size : Int) + (n2.size : Int) := by have := HS2.out; omega
        have hz2 : ¬ 9223372036854775807 < o2.size + n2.size := by have := HS2.out; omega
        have hq1 : ((o2 ++ n2).toList != (o2 ++ n2).toList) = false := by simp
        have hq3 : ((n2.size : Int) != (n2.size : Int)) = false := by simp
        go_wp2_with fail
        refine wp_region_held_drew (S := (fun w' => Below Y.heap.size Y w' ∧ w'.cell? ⟨r, 0, none⟩ = some (.string o2) ∧ w'.cell? ⟨r, 1, none⟩ = some (.string n2))) (by kernel_rfl) ?_ (fun hHeld => ?_)
        · (first
          | exact HC.out _ hs2
          | exact HC.out _ hs1
          | exact HC.out _ (Below.refl _ _).drew
          | exact HC.out _ (Below.refl _ _)
          | fail)
        refine wpAnyH_take (i := 0) (v := ?_) rfl (by kernel_rfl) (by kernel_rfl) (by kernel_rfl) (fun _ _ _ h => h) (Or.inl ⟨by rfl, ?_⟩) (by assumption) ?_
        rotate_left
        · (intro w hSw; (try dsimp only at hSw); go_simp; try rfl)
        try simp only [Act.put, List.setIfInBounds_toArray, List.set_cons_zero, List.set_cons_succ, List.getElem_toArray, List.getElem_cons_zero, List.getElem_cons_succ]
        refine wpAnyH_take (i := 3) (v := ?_) rfl (by kernel_rfl) (by kernel_rfl) (by kernel_rfl) (fun _ _ _ h => h) (Or.inl ⟨by rfl, ?_⟩) (by assumption) ?_
        rotate_left
        · (intro w hSw; (try dsimp only at hSw); go_simp; try rfl)
        try simp only [Act.put, List.setIfInBounds_toArray, List.set_cons_zero, List.set_cons_succ, List.getElem_toArray, List.getElem_cons_zero, List.getElem_cons_succ]
        refine wpAnyH_take (i := 4) (v := ?_) rfl (by kernel_rfl) (by kernel_rfl) (by kernel_rfl) (fun _ _ _ h => h) (Or.inl ⟨by rfl, ?_⟩) (by assumption) ?_
        rotate_left
        · (intro w hSw; (try dsimp only at hSw); go_simp; try rfl)
        try simp only [Act.put, List.setIfInBounds_toArray, List.set_cons_zero, List.set_cons_succ, List.getElem_toArray, List.getElem_cons_zero, List.getElem_cons_succ]
        refine wpAnyH_take (i := 5) (v := ?_) rfl (by kernel_rfl) (by kernel_rfl) (by kernel_rfl) (fun _ _ _ h => h) (Or.inl ⟨by rfl, ?_⟩) (by assumption) ?_
        rotate_left
        · (intro w hSw; (try dsimp only at hSw); go_simp; try rfl)
        try simp only [Act.put, List.setIfInBounds_toArray, List.set_cons_zero, List.set_cons_succ, List.getElem_toArray, List.getElem_cons_zero, List.getElem_cons_succ]
        refine wpAnyH_take (i := 6) (v := ?_) rfl (by kernel_rfl) (by kernel_rfl) (by kernel_rfl) (fun _ _ _ h => h) (Or.inl ⟨by rfl, ?_⟩) (by assumption) ?_
        rotate_left
        · (intro w hSw; (try dsimp only at hSw); go_simp; try rfl)
        try simp only [Act.put, List.setIfInBounds_toArray, List.set_cons_zero, List.set_cons_succ, List.getElem_toArray, List.getElem_cons_zero, List.getElem_cons_succ]
        refine wpAnyH_take (i := 7) (v := ?_) rfl (by kernel_rfl) (by kernel_rfl) (by kernel_rfl) (fun _ _ _ h => h) (Or.inl ⟨by rfl, ?_⟩) (by assumption) ?_
        rotate_left
        · (intro w hSw; (try dsimp only at hSw); go_simp; try rfl)
        try simp only [Act.put, List.setIfInBounds_toArray, List.set_cons_zero, List.set_cons_succ, List.getElem_toArray, List.getElem_cons_zero, List.getElem_cons_succ]
        refine wpAnyH_take (i := 8) (v := ?_) rfl (by kernel_rfl) (by kernel_rfl) (by kernel_rfl) (fun _ _ _ h => h) (Or.inl ⟨by rfl, ?_⟩) (by assumption) ?_
        rotate_left
        · (intro w hSw; (try dsimp only at hSw); go_simp; try rfl)
        try simp only [Act.put, List.setIfInBounds_toArray, List.set_cons_zero, List.set_cons_succ, List.getElem_toArray, List.getElem_cons_zero, List.getElem_cons_succ]
        refine wpAnyH_take (i := 9) (v := ?_) rfl (by kernel_rfl) (by kernel_rfl) (by kernel_rfl) (fun _ _ _ h => h) (Or.inl ⟨by rfl, ?_⟩) (by assumption) ?_
        rotate_left
        · (intro w hSw; (try dsimp only at hSw); go_simp; try rfl)
        try simp only [Act.put, List.setIfInBounds_toArray, List.set_cons_zero, List.set_cons_succ, List.getElem_toArray, List.getElem_cons_zero, List.getElem_cons_succ]
        refine wpAnyH_take (i := 10) (v := ?_) rfl (by kernel_rfl) (by kernel_rfl) (by kernel_rfl) (fun _ _ _ h => h) (Or.inl ⟨by rfl, ?_⟩) (by assumption) ?_
        rotate_left
        · (intro w hSw; (try dsimp only at hSw); go_simp; try rfl)
        try simp only [Act.put, List.setIfInBounds_toArray, List.set_cons_zero, List.set_cons_succ, List.getElem_toArray, List.getElem_cons_zero, List.getElem_cons_succ]
        refine wpAnyH_take (i := 11) (v := ?_) rfl (by kernel_rfl) (by kernel_rfl) (by kernel_rfl) (fun _ _ _ h => h) (Or.inl ⟨by rfl, ?_⟩) (by assumption) ?_
        rotate_left
        · (intro w hSw; (try dsimp only at hSw); go_simp; try rfl)
        try simp only [Act.put, List.setIfInBounds_toArray, List.set_cons_zero, List.set_cons_succ, List.getElem_toArray, List.getElem_cons_zero, List.getElem_cons_succ]
        refine wpAnyH_ready (rs := [1]) (by kernel_rfl) (by simp) ?_
        refine (AllReadyH.cons rfl (fun K hK => ?_) AllReadyH.nil)
        go_simp
        (go_at_call 16; refine (HBy.out _ hHeld.1).mono ?_; rintro e wb ⟨vb, he, ho8, hbb⟩; have he := he.out; subst he; have hs1 : Below Y.heap.size Y wb := below_self hHeld.1 hbb)
        refine hK.out _ _ ?_ (fun hHeld => ?_)
        · (first
          | exact HC.out _ hs2
          | exact HC.out _ hs1
          | exact HC.out _ (Below.refl _ _).drew
          | exact HC.out _ (Below.refl _ _)
          | fail)
        clear hK K
        try simp only [Act.put, List.setIfInBounds_toArray, List.set_cons_zero, List.set_cons_succ, List.getElem_toArray, List.getElem_cons_zero, List.getElem_cons_succ]
        refine wpAnyH_ready (rs := [2]) (by kernel_rfl) (by simp) ?_
        refine (AllReadyH.cons rfl (fun K hK => ?_) AllReadyH.nil)
        refine step_textD (by rfl) _ rfl vb J rfl (ho8.bt (by have := HJl.out; omega)) ?_
        rw [HTX.out]
        refine hK.out _ _ ?_ (fun hHeld => ?_)
        · (first
          | exact HC.out _ hs2
          | exact HC.out _ hs1
          | exact HC.out _ (Below.refl _ _).drew
          | exact HC.out _ (Below.refl _ _)
          | fail)
        clear hK K
        try simp only [Act.put, List.setIfInBounds_toArray, List.set_cons_zero, List.set_cons_succ, List.getElem_toArray, List.getElem_cons_zero, List.getElem_cons_succ]
        refine wpAnyH_take (i := 12) (v := ?_) rfl (by kernel_rfl) (by kernel_rfl) (by kernel_rfl) (fun _ _ _ h => h) (Or.inl ⟨by rfl, ?_⟩) (by assumption) ?_
        rotate_left
        · (intro w hSw; (try dsimp only at hSw); go_simp; try rfl)
        try simp only [Act.put, List.setIfInBounds_toArray, List.set_cons_zero, List.set_cons_succ, List.getElem_toArray, List.getElem_cons_zero, List.getElem_cons_succ]
        refine wpAnyH_take (i := 13) (v := ?_) rfl (by kernel_rfl) (by kernel_rfl) (by kernel_rfl) (fun _ _ _ h => h) (Or.inl ⟨by rfl, ?_⟩) (by assumption) ?_
        rotate_left
        · (intro w hSw; (try dsimp only at hSw); go_simp; try rfl)
        try simp only [Act.put, List.setIfInBounds_toArray, List.set_cons_zero, List.set_cons_succ, List.getElem_toArray, List.getElem_cons_zero, List.getElem_cons_succ]
        refine wpAnyH_take (i := 14) (v := ?_) rfl (by kernel_rfl) (by kernel_rfl) (by kernel_rfl) (fun _ _ _ h => h) (Or.inl ⟨by rfl, ?_⟩) (by assumption) ?_
        rotate_left
        · (intro w hSw; (try dsimp only at hSw); go_simp; try rfl)
        try simp only [Act.put, List.setIfInBounds_toArray, List.set_cons_zero, List.set_cons_succ, List.getElem_toArray, List.getElem_cons_zero, List.getElem_cons_succ]
        refine wpAnyH_take (i := 16) (v := ?_) rfl (by kernel_rfl) (by kernel_rfl) (by kernel_rfl) (fun _ _ _ h => h) (Or.inl ⟨by rfl, ?_⟩) (by assumption) ?_
        rotate_left
        · (intro w hSw; (try dsimp only at hSw); go_simp; try rfl)
        try simp only [Act.put, List.setIfInBounds_toArray, List.set_cons_zero, List.set_cons_succ, List.getElem_toArray, List.getElem_cons_zero, List.getElem_cons_succ]
        refine wpAnyH_take (i := 17) (v := ?_) rfl (by kernel_rfl) (by kernel_rfl) (by kernel_rfl) (fun _ _ _ h => h) (Or.inl ⟨by rfl, ?_⟩) (by assumption) ?_
        rotate_left
        · (intro w hSw; (try dsimp only at hSw); go_simp; try rfl)
        try simp only [Act.put, List.setIfInBounds_toArray, List.set_cons_zero, List.set_cons_succ, List.getElem_toArray, List.getElem_cons_zero, List.getElem_cons_succ]
        refine wpAnyH_take (i := 18) (v := ?_) rfl (by kernel_rfl) (by kernel_rfl) (by kernel_rfl) (fun _ _ _ h => h) (Or.inl ⟨by rfl, ?_⟩) (by assumption) ?_
        rotate_left
        · (intro w hSw; (try dsimp only at hSw); go_simp; try rfl)
        try simp only [Act.put, List.setIfInBounds_toArray, List.set_cons_zero, List.set_cons_succ, List.getElem_toArray, List.getElem_cons_zero, List.getElem_cons_succ]
        refine wpAnyH_take (i := 19) (v := ?_) rfl (by kernel_rfl) (by kernel_rfl) (by kernel_rfl) (fun _ _ _ h => h) (Or.inl ⟨by rfl, ?_⟩) (by assumption) ?_
        rotate_left
        · (intro w hSw; (try dsimp only at hSw); go_simp; try rfl)
        try simp only [Act.put, List.setIfInBounds_toArray, List.set_cons_zero, List.set_cons_succ, List.getElem_toArray, List.getElem_cons_zero, List.getElem_cons_succ]
        refine wpAnyH_take (i := 20) (v := ?_) rfl (by kernel_rfl) (by kernel_rfl) (by kernel_rfl) (fun _ _ _ h => h) (Or.inl ⟨by rfl, ?_⟩) (by assumption) ?_
        rotate_left
        · (intro w hSw; (try dsimp only at hSw); go_simp; try rfl)
        try simp only [Act.put, List.setIfInBounds_toArray, List.set_cons_zero, List.set_cons_succ, List.getElem_toArray, List.getElem_cons_zero, List.getElem_cons_succ]
        refine wpAnyH_ready (rs := [15]) (by kernel_rfl) (by simp) ?_
        refine (AllReadyH.cons rfl (fun K hK => ?_) AllReadyH.nil)
        go_simp
        (go_at_call 17; refine (HDi.out _ hHeld.1).mono ?_; rintro e wd ⟨rfl, hbd⟩; have hs2 : Below Y.heap.size Y wd := below_self hHeld.1 hbd)
        refine hK.out _ _ ?_ (fun hHeld => ?_)
        · (first
          | exact HC.out _ hs2
          | exact HC.out _ hs1
          | exact HC.out _ (Below.refl _ _).drew
          | exact HC.out _ (Below.refl _ _)
          | fail)
        clear hK K
        try simp only [Act.put, List.setIfInBounds_toArray, List.set_cons_zero, List.set_cons_succ, List.getElem_toArray, List.getElem_cons_zero, List.getElem_cons_succ]
        refine wpAnyH_take (i := 21) (v := ?_) rfl (by kernel_rfl) (by kernel_rfl) (by kernel_rfl) (fun _ _ _ h => h) (Or.inl ⟨by rfl, ?_⟩) (by assumption) ?_
        rotate_left
        · (intro w hSw; (try dsimp only at hSw); go_simp; try rfl)
        try simp only [Act.put, List.setIfInBounds_toArray, List.set_cons_zero, List.set_cons_succ, List.getElem_toArray, List.getElem_cons_zero, List.getElem_cons_succ]
        refine wpAnyH_take (i := 22) (v := ?_) rfl (by kernel_rfl) (by kernel_rfl) (by kernel_rfl) (fun _ _ _ h => h) (Or.inl ⟨by rfl, ?_⟩) (by assumption) ?_
        rotate_left
        · (intro w hSw; (try dsimp only at hSw); go_simp; try rfl)
        try simp only [Act.put, List.setIfInBounds_toArray, List.set_cons_zero, List.set_cons_succ, List.getElem_toArray, List.getElem_cons_zero, List.getElem_cons_succ]
        refine wpAnyH_done (by kernel_rfl) ?_ _
        have HLast := Lib.hid (HBY.out.trans ((hs2).mono HBY.out.size))
        have HDn := Lib.hid (HDY.out.below hs2)
        have HRn := Lib.hid (bk_below2 HRY.out hs2)
        clear hs1 hs2 hbb hbd ho8 HC HBy HDi HTX
        go_wp2_with fail
        go_roundw
        case rel => exact ⟨k + 1, o2, n2, _, by omega, by go_num, HS2, by rw [HJ.out]; exact HDn, HRn, HLast⟩
        case measure => simp [intOf]; omega
      have m3d : decide (m = 3) = false := decide_eq_false m3
      have m3b : (m == 3) = false := by simp [m3]
      by_cases m4 : m = 4
      · have m4d : decide (m = 4) = true := decide_eq_true m4
        have m4b : (m == 4) = true := by simp [m4]
        go_wp2_with fail
        refine (open_any B p v _ _ wr HD.out HJb.out (byt_range _)).mono ?_
        rintro e w2 ⟨lv, v2, he, hrows, hv2, hd, hf⟩
        rw [he.out]
        have HD2 := Lib.hid hd
        have HR2 := Lib.hid (HRr.out.foot HD.out hf)
        have HB2 := Lib.hid (hB.out.trans ((HD.out.foot hf).mono hWB))
        have HRo := Lib.hid hrows
        have hww : wr.heap.size ≤ w2.heap.size := hf.size
        have hrw : r < wr.heap.size := HRr.out.lt
        clear he hd hf hv2 hrows
        obtain ⟨la, lc, hlv⟩ := HRo.out.row.row
        rw [hlv] at HRo ⊢
        obtain ⟨lm, hlm⟩ : ∃ m, (allN (byt (o ++ n))).length = m := ⟨_, rfl⟩
        rw [hlm] at HRo ⊢
        clear hlv
        go_wp2_with fail
        refine (ropen_any HR2.out (by have := HS.out; omega)).mono ?_
        rintro e w3 ⟨sv, he, hown, hr, hf⟩
        rw [he.out]
        have HRo3 : Hid (AllRow w3 (.slice la lm lc) (allN (byt (o ++ n)))) := Lib.hid (RowsF.row (HRo.out.keep fun k h1 h2 => hf.block k h2 (by omega)))
        have hss : strs (allN (byt (o ++ n))) = ((allN (byt (o ++ n))).map txt).map .string := by unfold strs; rw [List.map_map]; rfl
        rw [hss] at hown
        have hcnt : (allN (byt (o ++ n))).length ≤ 1000000 := Nat.le_trans (allF_count _ _) (by rw [byt_length, ByteArray.size_append]; have := HS.out; omega)
        obtain ⟨sa, sc, hsv, hsr⟩ := srd_of_own hown (by rw [List.length_map]; exact hcnt)
        subst hsv
        have hmb : ((allN (byt (o ++ n))).map txt).map byt = allN (byt (o ++ n)) := by
          rw [List.map_map]
          refine (List.map_congr_left fun X hX => ?_).trans (List.map_id _)
          exact byt_txt (allN_rng (byt_range _) X hX)
        have HTt := Lib.hid (texts_true (.slice la lm lc) sa sc ((allN (byt (o ++ n))).map txt) w3 (by rw [hmb]; exact HRo3.out) hsr)
        have HDo := Lib.hid (HD2.out.fr HR2.out hf)
        have HRr3 := Lib.hid hr
        have HBo := Lib.hid (HB2.out.trans (hf.toBelow hWr (Nat.le_trans hWB (Nat.le_of_lt (Nat.lt_of_le_of_lt HD2.out.low HD2.out.lt)))))
        obtain ⟨sm, hsm⟩ : ∃ m, ((allN (byt (o ++ n))).map txt).length = m := ⟨_, rfl⟩
        rw [hsm] at HTt ⊢
        clear he hown hr hf hss hcnt hsr hmb hsm hlm HRo HRo3 hww hrw
        go_wp2_with fail
        refine HTt.out.mono ?_
        rintro e w4 ⟨rfl, hb⟩
        obtain ⟨o2, ho2⟩ : ∃ o2, (o ++ n).extract 0 (totL (allN (byt (o ++ n)))) = o2 := ⟨_, rfl⟩
        obtain ⟨n2, hn2⟩ : ∃ n2 : ByteArray, ⟨#[]⟩ = n2 := ⟨_, rfl⟩
        obtain ⟨J, hJ0⟩ : ∃ J, (byt (o ++ n)).take (totL (allN (byt (o ++ n)))) = J := ⟨_, rfl⟩
        have hJ1 : byt o2 = J := by rw [← hJ0, ← ho2, byt_cut]
        have hT : totL (allN (byt (o ++ n))) = o2.size := by
          have h1 := totL_allN (byt (o ++ n))
          rw [byt_length] at h1
          rw [← ho2, ByteArray.size_extract]; omega
        have HJ : Hid (byt (o2 ++ n2) = J) := Lib.hid (by rw [← hn2, byt_two, byt_nil, List.append_nil]; exact hJ1)
        have HS2 : Hid (o2.size + n2.size ≤ 500 + 68 * (k + 1)) := Lib.hid (by
          have h1 := totL_allN (byt (o ++ n))
          rw [byt_length, ByteArray.size_append] at h1
          rw [← hn2]
          have := HS.out
          show o2.size + 0 ≤ _
          omega)
        have HDY : Hid (DAt w4 B p v2 J o2.size) := Lib.hid (by
          have h := HDo.out.below hb
          rw [hJ0, hT] at h
          exact h)
        have HRY : Hid (RAt w4 r o2 n2) := Lib.hid (by
          have h := bk_below2 HRr3.out hb
          rw [ho2, hn2] at h
          exact h)
        have HBY := Lib.hid (below_self HBo.out hb)
        clear hb ho2 hn2 hJ0 hJ1 hT HDo HRr3 HBo HTt HD2 HR2 HB2 HD HRr hB HS HJb
        have HJl : Hid (J.length ≤ 1000000) := Lib.hid (by rw [← HJ.out, byt_length, ByteArray.size_append]; have := HS2.out; omega)
        have HJz : Hid ((J.length : Int) - (o2.size : Int) = (n2.size : Int)) := Lib.hid (by rw [← HJ.out, byt_length, ByteArray.size_append]; omega)
        have HTX : Hid (txt J = o2 ++ n2) := Lib.hid (by rw [← HJ.out, txt_byt])
        obtain ⟨Y, hY⟩ : ∃ Y, w4 = Y := ⟨_, rfl⟩
        rw [hY]
        rw [hY] at HDY HRY HBY
        clear hY
        have HBy : Hid (∀ V : World, Below Y.heap.size Y V → Calls Try.prog 16 #[.pointer (some ⟨p, 0, none⟩)] V (CpP J V)) := Lib.hid fun V hV => dbytes_any B p _ J _ V (HDY.out.below hV) (by have := HJl.out; omega)
        have HDi : Hid (∀ V : World, Below Y.heap.size Y V → Calls Try.prog 17 #[.pointer (some ⟨p, 0, none⟩)] V fun e w' => e = .returned (.int .i64 (n2.size : Int)) ∧ Below V.heap.size V w') := Lib.hid fun V hV => by
          have h := dirty_any B p _ J o2.size V (HDY.out.below hV) (by have := HJl.out; omega) (by have := HJz.out; omega)
          rw [HJz.out] at h
          exact h
        have HC : Hid (∀ w' : World, Below Y.heap.size Y w' → Below Y.heap.size Y w' ∧ w'.cell? ⟨r, 0, none⟩ = some (.string o2) ∧ w'.cell? ⟨r, 1, none⟩ = some (.string n2)) := Lib.hid fun w' hb => ⟨hb, (bk_below2 HRY.out hb).cell 0, (bk_below2 HRY.out hb).cell 1⟩
        have hz1 : ¬ (9223372036854775807 : Int) < (o2.size : Int) + (n2.size : Int) := by have := HS2.out; omega
        have hz2 : ¬ 9223372036854775807 < o2.size + n2.size := by have := HS2.out; omega
        have hq1 : ((o2 ++ n2).toList != (o2 ++ n2).toList) = false := by simp
        have hq3 : ((n2.size : Int) != (n2.size : Int)) = false := by simp
        go_wp2_with fail
        refine wp_region_held_drew (S := (fun w' => Below Y.heap.size Y w' ∧ w'.cell? ⟨r, 0, none⟩ = some (.string o2) ∧ w'.cell? ⟨r, 1, none⟩ = some (.string n2))) (by kernel_rfl) ?_ (fun hHeld => ?_)
        · (first
          | exact HC.out _ hs2
          | exact HC.out _ hs1
          | exact HC.out _ (Below.refl _ _).drew
          | exact HC.out _ (Below.refl _ _)
          | fail)
        refine wpAnyH_take (i := 0) (v := ?_) rfl (by kernel_rfl) (by kernel_rfl) (by kernel_rfl) (fun _ _ _ h => h) (Or.inl ⟨by rfl, ?_⟩) (by assumption) ?_
        rotate_left
        · (intro w hSw; (try dsimp only at hSw); go_simp; try rfl)
        try simp only [Act.put, List.setIfInBounds_toArray, List.set_cons_zero, List.set_cons_succ, List.getElem_toArray, List.getElem_cons_zero, List.getElem_cons_succ]
        refine wpAnyH_take (i := 3) (v := ?_) rfl (by kernel_rfl) (by kernel_rfl) (by kernel_rfl) (fun _ _ _ h => h) (Or.inl ⟨by rfl, ?_⟩) (by assumption) ?_
        rotate_left
        · (intro w hSw; (try dsimp only at hSw); go_simp; try rfl)
        try simp only [Act.put, List.setIfInBounds_toArray, List.set_cons_zero, List.set_cons_succ, List.getElem_toArray, List.getElem_cons_zero, List.getElem_cons_succ]
        refine wpAnyH_take (i := 4) (v := ?_) rfl (by kernel_rfl) (by kernel_rfl) (by kernel_rfl) (fun _ _ _ h => h) (Or.inl ⟨by rfl, ?_⟩) (by assumption) ?_
        rotate_left
        · (intro w hSw; (try dsimp only at hSw); go_simp; try rfl)
        try simp only [Act.put, List.setIfInBounds_toArray, List.set_cons_zero, List.set_cons_succ, List.getElem_toArray, List.getElem_cons_zero, List.getElem_cons_succ]
        refine wpAnyH_take (i := 5) (v := ?_) rfl (by kernel_rfl) (by kernel_rfl) (by kernel_rfl) (fun _ _ _ h => h) (Or.inl ⟨by rfl, ?_⟩) (by assumption) ?_
        rotate_left
        · (intro w hSw; (try dsimp only at hSw); go_simp; try rfl)
        try simp only [Act.put, List.setIfInBounds_toArray, List.set_cons_zero, List.set_cons_succ, List.getElem_toArray, List.getElem_cons_zero, List.getElem_cons_succ]
        refine wpAnyH_take (i := 6) (v := ?_) rfl (by kernel_rfl) (by kernel_rfl) (by kernel_rfl) (fun _ _ _ h => h) (Or.inl ⟨by rfl, ?_⟩) (by assumption) ?_
        rotate_left
        · (intro w hSw; (try dsimp only at hSw); go_simp; try rfl)
        try simp only [Act.put, List.setIfInBounds_toArray, List.set_cons_zero, List.set_cons_succ, List.getElem_toArray, List.getElem_cons_zero, List.getElem_cons_succ]
        refine wpAnyH_take (i := 7) (v := ?_) rfl (by kernel_rfl) (by kernel_rfl) (by kernel_rfl) (fun _ _ _ h => h) (Or.inl ⟨by rfl, ?_⟩) (by assumption) ?_
        rotate_left
        · (intro w hSw; (try dsimp only at hSw); go_simp; try rfl)
        try simp only [Act.put, List.setIfInBounds_toArray, List.set_cons_zero, List.set_cons_succ, List.getElem_toArray, List.getElem_cons_zero, List.getElem_cons_succ]
        refine wpAnyH_take (i := 8) (v := ?_) rfl (by kernel_rfl) (by kernel_rfl) (by kernel_rfl) (fun _ _ _ h => h) (Or.inl ⟨by rfl, ?_⟩) (by assumption) ?_
        rotate_left
        · (intro w hSw; (try dsimp only at hSw); go_simp; try rfl)
        try simp only [Act.put, List.setIfInBounds_toArray, List.set_cons_zero, List.set_cons_succ, List.getElem_toArray, List.getElem_cons_zero, List.getElem_cons_succ]
        refine wpAnyH_take (i := 9) (v := ?_) rfl (by kernel_rfl) (by kernel_rfl) (by kernel_rfl) (fun _ _ _ h => h) (Or.inl ⟨by rfl, ?_⟩) (by assumption) ?_
        rotate_left
        · (intro w hSw; (try dsimp only at hSw); go_simp; try rfl)
        try simp only [Act.put, List.setIfInBounds_toArray, List.set_cons_zero, List.set_cons_succ, List.getElem_toArray, List.getElem_cons_zero, List.getElem_cons_succ]
        refine wpAnyH_take (i := 10) (v := ?_) rfl (by kernel_rfl) (by kernel_rfl) (by kernel_rfl) (fun _ _ _ h => h) (Or.inl ⟨by rfl, ?_⟩) (by assumption) ?_
        rotate_left
        · (intro w hSw; (try dsimp only at hSw); go_simp; try rfl)
        try simp only [Act.put, List.setIfInBounds_toArray, List.set_cons_zero, List.set_cons_succ, List.getElem_toArray, List.getElem_cons_zero, List.getElem_cons_succ]
        refine wpAnyH_take (i := 11) (v := ?_) rfl (by kernel_rfl) (by kernel_rfl) (by kernel_rfl) (fun _ _ _ h => h) (Or.inl ⟨by rfl, ?_⟩) (by assumption) ?_
        rotate_left
        · (intro w hSw; (try dsimp only at hSw); go_simp; try rfl)
        try simp only [Act.put, List.setIfInBounds_toArray, List.set_cons_zero, List.set_cons_succ, List.getElem_toArray, List.getElem_cons_zero, List.getElem_cons_succ]
        refine wpAnyH_ready (rs := [1]) (by kernel_rfl) (by simp) ?_
        refine (AllReadyH.cons rfl (fun K hK => ?_) AllReadyH.nil)
        go_simp
        (go_at_call 16; refine (HBy.out _ hHeld.1).mono ?_; rintro e wb ⟨vb, he, ho8, hbb⟩; have he := he.out; subst he; have hs1 : Below Y.heap.size Y wb := below_self hHeld.1 hbb)
        refine hK.out _ _ ?_ (fun hHeld => ?_)
        · (first
          | exact HC.out _ hs2
          | exact HC.out _ hs1
          | exact HC.out _ (Below.refl _ _).drew
          | exact HC.out _ (Below.refl _ _)
          | fail)
        clear hK K
        try simp only [Act.put, List.setIfInBounds_toArray, List.set_cons_zero, List.set_cons_succ, List.getElem_toArray, List.getElem_cons_zero, List.getElem_cons_succ]
        refine wpAnyH_ready (rs := [2]) (by kernel_rfl) (by simp) ?_
        refine (AllReadyH.cons rfl (fun K hK => ?_) AllReadyH.nil)
        refine step_textD (by rfl) _ rfl vb J rfl (ho8.bt (by have := HJl.out; omega)) ?_
        rw [HTX.out]
        refine hK.out _ _ ?_ (fun hHeld => ?_)
        · (first
          | exact HC.out _ hs2
          | exact HC.out _ hs1
          | exact HC.out _ (Below.refl _ _).drew
          | exact HC.out _ (Below.refl _ _)
          | fail)
        clear hK K
        try simp only [Act.put, List.setIfInBounds_toArray, List.set_cons_zero, List.set_cons_succ, List.getElem_toArray, List.getElem_cons_zero, List.getElem_cons_succ]
        refine wpAnyH_take (i := 12) (v := ?_) rfl (by kernel_rfl) (by kernel_rfl) (by kernel_rfl) (fun _ _ _ h => h) (Or.inl ⟨by rfl, ?_⟩) (by assumption) ?_
        rotate_left
        · (intro w hSw; (try dsimp only at hSw); go_simp; try rfl)
        try simp only [Act.put, List.setIfInBounds_toArray, List.set_cons_zero, List.set_cons_succ, List.getElem_toArray, List.getElem_cons_zero, List.getElem_cons_succ]
        refine wpAnyH_take (i := 13) (v := ?_) rfl (by kernel_rfl) (by kernel_rfl) (by kernel_rfl) (fun _ _ _ h => h) (Or.inl ⟨by rfl, ?_⟩) (by assumption) ?_
        rotate_left
        · (intro w hSw; (try dsimp only at hSw); go_simp; try rfl)
        try simp only [Act.put, List.setIfInBounds_toArray, List.set_cons_zero, List.set_cons_succ, List.getElem_toArray, List.getElem_cons_zero, List.getElem_cons_succ]
        refine wpAnyH_take (i := 14) (v := ?_) rfl (by kernel_rfl) (by kernel_rfl) (by kernel_rfl) (fun _ _ _ h => h) (Or.inl ⟨by rfl, ?_⟩) (by assumption) ?_
        rotate_left
        · (intro w hSw; (try dsimp only at hSw); go_simp; try rfl)
        try simp only [Act.put, List.setIfInBounds_toArray, List.set_cons_zero, List.set_cons_succ, List.getElem_toArray, List.getElem_cons_zero, List.getElem_cons_succ]
        refine wpAnyH_take (i := 16) (v := ?_) rfl (by kernel_rfl) (by kernel_rfl) (by kernel_rfl) (fun _ _ _ h => h) (Or.inl ⟨by rfl, ?_⟩) (by assumption) ?_
        rotate_left
        · (intro w hSw; (try dsimp only at hSw); go_simp; try rfl)
        try simp only [Act.put, List.setIfInBounds_toArray, List.set_cons_zero, List.set_cons_succ, List.getElem_toArray, List.getElem_cons_zero, List.getElem_cons_succ]
        refine wpAnyH_take (i := 17) (v := ?_) rfl (by kernel_rfl) (by kernel_rfl) (by kernel_rfl) (fun _ _ _ h => h) (Or.inl ⟨by rfl, ?_⟩) (by assumption) ?_
        rotate_left
        · (intro w hSw; (try dsimp only at hSw); go_simp; try rfl)
        try simp only [Act.put, List.setIfInBounds_toArray, List.set_cons_zero, List.set_cons_succ, List.getElem_toArray, List.getElem_cons_zero, List.getElem_cons_succ]
        refine wpAnyH_take (i := 18) (v := ?_) rfl (by kernel_rfl) (by kernel_rfl) (by kernel_rfl) (fun _ _ _ h => h) (Or.inl ⟨by rfl, ?_⟩) (by assumption) ?_
        rotate_left
        · (intro w hSw; (try dsimp only at hSw); go_simp; try rfl)
        try simp only [Act.put, List.setIfInBounds_toArray, List.set_cons_zero, List.set_cons_succ, List.getElem_toArray, List.getElem_cons_zero, List.getElem_cons_succ]
        refine wpAnyH_take (i := 19) (v := ?_) rfl (by kernel_rfl) (by kernel_rfl) (by kernel_rfl) (fun _ _ _ h => h) (Or.inl ⟨by rfl, ?_⟩) (by assumption) ?_
        rotate_left
        · (intro w hSw; (try dsimp only at hSw); go_simp; try rfl)
        try simp only [Act.put, List.setIfInBounds_toArray, List.set_cons_zero, List.set_cons_succ, List.getElem_toArray, List.getElem_cons_zero, List.getElem_cons_succ]
        refine wpAnyH_take (i := 20) (v := ?_) rfl (by kernel_rfl) (by kernel_rfl) (by kernel_rfl) (fun _ _ _ h => h) (Or.inl ⟨by rfl, ?_⟩) (by assumption) ?_
        rotate_left
        · (intro w hSw; (try dsimp only at hSw); go_simp; try rfl)
        try simp only [Act.put, List.setIfInBounds_toArray, List.set_cons_zero, List.set_cons_succ, List.getElem_toArray, List.getElem_cons_zero, List.getElem_cons_succ]
        refine wpAnyH_ready (rs := [15]) (by kernel_rfl) (by simp) ?_
        refine (AllReadyH.cons rfl (fun K hK => ?_) AllReadyH.nil)
        go_simp
        (go_at_call 17; refine (HDi.out _ hHeld.1).mono ?_; rintro e wd ⟨rfl, hbd⟩; have hs2 : Below Y.heap.size Y wd := below_self hHeld.1 hbd)
        refine hK.out _ _ ?_ (fun hHeld => ?_)
        · (first
          | exact HC.out _ hs2
          | exact HC.out _ hs1
          | exact HC.out _ (Below.refl _ _).drew
          | exact HC.out _ (Below.refl _ _)
          | fail)
        clear hK K
        try simp only [Act.put, List.setIfInBounds_toArray, List.set_cons_zero, List.set_cons_succ, List.getElem_toArray, List.getElem_cons_zero, List.getElem_cons_succ]
        refine wpAnyH_take (i := 21) (v := ?_) rfl (by kernel_rfl) (by kernel_rfl) (by kernel_rfl) (fun _ _ _ h => h) (Or.inl ⟨by rfl, ?_⟩) (by assumption) ?_
        rotate_left
        · (intro w hSw; (try dsimp only at hSw); go_simp; try rfl)
        try simp only [Act.put, List.setIfInBounds_toArray, List.set_cons_zero, List.set_cons_succ, List.getElem_toArray, List.getElem_cons_zero, List.getElem_cons_succ]
        refine wpAnyH_take (i := 22) (v := ?_) rfl (by kernel_rfl) (by kernel_rfl) (by kernel_rfl) (fun _ _ _ h => h) (Or.inl ⟨by rfl, ?_⟩) (by assumption) ?_
        rotate_left
        · (intro w hSw; (try dsimp only at hSw); go_simp; try rfl)
        try simp only [Act.put, List.setIfInBounds_toArray, List.set_cons_zero, List.set_cons_succ, List.getElem_toArray, List.getElem_cons_zero, List.getElem_cons_succ]
        refine wpAnyH_done (by kernel_rfl) ?_ _
        have HLast := Lib.hid (HBY.out.trans ((hs2).mono HBY.out.size))
        have HDn := Lib.hid (HDY.out.below hs2)
        have HRn := Lib.hid (bk_below2 HRY.out hs2)
        clear hs1 hs2 hbb hbd ho8 HC HBy HDi HTX
        go_wp2_with fail
        go_roundw
        case rel => exact ⟨k + 1, o2, n2, _, by omega, by go_num, HS2, by rw [HJ.out]; exact HDn, HRn, HLast⟩
        case measure => simp [intOf]; omega
      have m4d : decide (m = 4) = false := decide_eq_false m4
      have m4b : (m == 4) = false := by simp [m4]
      go_wp2_with (refine wpList_bytes rfl 9 27 _ rfl 5 Try.underlying9 Try.underlying27 Try.underlying5 bd rfl HBd63.out ?_)
      intro v4 w4 hbt hz4 hb4
      have HBT := Lib.hid hbt
      have HD4 := Lib.hid (HD.out.below hb4)
      have HR4 := Lib.hid (bk_below2 HRr.out hb4)
      have HB4 := Lib.hid (below_self hB.out hb4)
      clear hbt hz4 hb4
      go_wp2_with fail
      refine (append_any B p v _ _ _ (byt bd) _ HD4.out HJb.out HBT.out (byt_range bd) (by rw [byt_length]; have := HBd.out; omega)).mono ?_
      rintro e w5 ⟨he, v5, hd, hf⟩
      rw [he.out]
      have HD5 := Lib.hid hd
      have HR5 := Lib.hid (HR4.out.foot HD4.out hf)
      have HB5 := Lib.hid (HB4.out.trans ((HD4.out.foot hf).mono hWB))
      have hc1' := HB5.out.cell (p := ⟨q, off + k * 3 + 1, none⟩) hq |>.trans HC1.out
      clear he hd hf HBT HD4 HR4 HB4
      go_wp2_with fail
      refine (rappend_any (b := bd) HR5.out (by have := HBd.out; omega) (by have := HS.out; omega)).mono ?_
      rintro e w6 ⟨he, hr, hf⟩
      rw [he.out]
      obtain ⟨o2, ho2⟩ : ∃ o2, o = o2 := ⟨_, rfl⟩
      obtain ⟨n2, hn2⟩ : ∃ n2 : ByteArray, n ++ txt (frm (byt bd)) = n2 := ⟨_, rfl⟩
      obtain ⟨J, hJ0⟩ : ∃ J, byt (o ++ n) ++ frm (byt bd) = J := ⟨_, rfl⟩
      rw [hn2] at hr
      have HJ : Hid (byt (o2 ++ n2) = J) := Lib.hid (by
        rw [← hJ0, ← ho2, ← hn2, byt_two, byt_two, byt_two, byt_txt (frm_range (byt_range bd) (by rw [byt_length]; have := HBd.out; omega)), List.append_assoc])
      have HS2 : Hid (o2.size + n2.size ≤ 500 + 68 * (k + 1)) := Lib.hid (by rw [← hn2, ← ho2, ByteArray.size_append, txt_size, frm_length, byt_length]; have := HS.out; have := HBd.out; omega)
      have HDY : Hid (DAt w6 B p v5 J o2.size) := Lib.hid (by
        have h := HD5.out.fr HR5.out hf
        rw [hJ0] at h
        rw [← ho2]
        exact h)
      have HRY : Hid (RAt w6 r o2 n2) := Lib.hid (by rw [← ho2]; exact hr)
      have HBY := Lib.hid (HB5.out.trans (hf.toBelow hWr (Nat.le_trans hWB (Nat.le_of_lt (Nat.lt_of_le_of_lt HD5.out.low HD5.out.lt)))))
      clear he hr hf ho2 hn2 hJ0 HD5 HR5 HB5 HD HRr hB HS HJb hc1' HC1 hq
      have HJl : Hid (J.length ≤ 1000000) := Lib.hid (by rw [← HJ.out, byt_length, ByteArray.size_append]; have := HS2.out; omega)
      have HJz : Hid ((J.length : Int) - (o2.size : Int) = (n2.size : Int)) := Lib.hid (by rw [← HJ.out, byt_length, ByteArray.size_append]; omega)
      have HTX : Hid (txt J = o2 ++ n2) := Lib.hid (by rw [← HJ.out, txt_byt])
      obtain ⟨Y, hY⟩ : ∃ Y, w6 = Y := ⟨_, rfl⟩
      rw [hY]
      rw [hY] at HDY HRY HBY
      clear hY
      have HBy : Hid (∀ V : World, Below Y.heap.size Y V → Calls Try.prog 16 #[.pointer (some ⟨p, 0, none⟩)] V (CpP J V)) := Lib.hid fun V hV => dbytes_any B p _ J _ V (HDY.out.below hV) (by have := HJl.out; omega)
      have HDi : Hid (∀ V : World, Below Y.heap.size Y V → Calls Try.prog 17 #[.pointer (some ⟨p, 0, none⟩)] V fun e w' => e = .returned (.int .i64 (n2.size : Int)) ∧ Below V.heap.size V w') := Lib.hid fun V hV => by
        have h := dirty_any B p _ J o2.size V (HDY.out.below hV) (by have := HJl.out; omega) (by have := HJz.out; omega)
        rw [HJz.out] at h
        exact h
      have HC : Hid (∀ w' : World, Below Y.heap.size Y w' → Below Y.heap.size Y w' ∧ w'.cell? ⟨r, 0, none⟩ = some (.string o2) ∧ w'.cell? ⟨r, 1, none⟩ = some (.string n2)) := Lib.hid fun w' hb => ⟨hb, (bk_below2 HRY.out hb).cell 0, (bk_below2 HRY.out hb).cell 1⟩
      have hz1 : ¬ (9223372036854775807 : Int) < (o2.size : Int) + (n2.size : Int) := by have := HS2.out; omega
      have hz2 : ¬ 9223372036854775807 < o2.size + n2.size := by have := HS2.out; omega
      have hq1 : ((o2 ++ n2).toList != (o2 ++ n2).toList) = false := by simp
      have hq3 : ((n2.size : Int) != (n2.size : Int)) = false := by simp
      go_wp2_with fail
      refine wp_region_held_drew (S := (fun w' => Below Y.heap.size Y w' ∧ w'.cell? ⟨r, 0, none⟩ = some (.string o2) ∧ w'.cell? ⟨r, 1, none⟩ = some (.string n2))) (by kernel_rfl) ?_ (fun hHeld => ?_)
      · (first
        | exact HC.out _ hs2
        | exact HC.out _ hs1
        | exact HC.out _ (Below.refl _ _).drew
        | exact HC.out _ (Below.refl _ _)
        | fail)
      refine wpAnyH_take (i := 0) (v := ?_) rfl (by kernel_rfl) (by kernel_rfl) (by kernel_rfl) (fun _ _ _ h => h) (Or.inl ⟨by rfl, ?_⟩) (by assumption) ?_
      rotate_left
      · (intro w hSw; (try dsimp only at hSw); go_simp; try rfl)
      try simp only [Act.put, List.setIfInBounds_toArray, List.set_cons_zero, List.set_cons_succ, List.getElem_toArray, List.getElem_cons_zero, List.getElem_cons_succ]
      refine wpAnyH_take (i := 3) (v := ?_) rfl (by kernel_rfl) (by kernel_rfl) (by kernel_rfl) (fun _ _ _ h => h) (Or.inl ⟨by rfl, ?_⟩) (by assumption) ?_
      rotate_left
      · (intro w hSw; (try dsimp only at hSw); go_simp; try rfl)
      try simp only [Act.put, List.setIfInBounds_toArray, List.set_cons_zero, List.set_cons_succ, List.getElem_toArray, List.getElem_cons_zero, List.getElem_cons_succ]
      refine wpAnyH_take (i := 4) (v := ?_) rfl (by kernel_rfl) (by kernel_rfl) (by kernel_rfl) (fun _ _ _ h => h) (Or.inl ⟨by rfl, ?_⟩) (by assumption) ?_
      rotate_left
      · (intro w hSw; (try dsimp only at hSw); go_simp; try rfl)
      try simp only [Act.put, List.setIfInBounds_toArray, List.set_cons_zero, List.set_cons_succ, List.getElem_toArray, List.getElem_cons_zero, List.getElem_cons_succ]
      refine wpAnyH_take (i := 5) (v := ?_) rfl (by kernel_rfl) (by kernel_rfl) (by kernel_rfl) (fun _ _ _ h => h) (Or.inl ⟨by rfl, ?_⟩) (by assumption) ?_
      rotate_left
      · (intro w hSw; (try dsimp only at hSw); go_simp; try rfl)
      try simp only [Act.put, List.setIfInBounds_toArray, List.set_cons_zero, List.set_cons_succ, List.getElem_toArray, List.getElem_cons_zero, List.getElem_cons_succ]
      refine wpAnyH_take (i := 6) (v := ?_) rfl (by kernel_rfl) (by kernel_rfl) (by kernel_rfl) (fun _ _ _ h => h) (Or.inl ⟨by rfl, ?_⟩) (by assumption) ?_
      rotate_left
      · (intro w hSw; (try dsimp only at hSw); go_simp; try rfl)
      try simp only [Act.put, List.setIfInBounds_toArray, List.set_cons_zero, List.set_cons_succ, List.getElem_toArray, List.getElem_cons_zero, List.getElem_cons_succ]
      refine wpAnyH_take (i := 7) (v := ?_) rfl (by kernel_rfl) (by kernel_rfl) (by kernel_rfl) (fun _ _ _ h => h) (Or.inl ⟨by rfl, ?_⟩) (by assumption) ?_
      rotate_left
      · (intro w hSw; (try dsimp only at hSw); go_simp; try rfl)
      try simp only [Act.put, List.setIfInBounds_toArray, List.set_cons_zero, List.set_cons_succ, List.getElem_toArray, List.getElem_cons_zero, List.getElem_cons_succ]
      refine wpAnyH_take (i := 8) (v := ?_) rfl (by kernel_rfl) (by kernel_rfl) (by kernel_rfl) (fun _ _ _ h => h) (Or.inl ⟨by rfl, ?_⟩) (by assumption) ?_
      rotate_left
      · (intro w hSw; (try dsimp only at hSw); go_simp; try rfl)
      try simp only [Act.put, List.setIfInBounds_toArray, List.set_cons_zero, List.set_cons_succ, List.getElem_toArray, List.getElem_cons_zero, List.getElem_cons_succ]
      refine wpAnyH_take (i := 9) (v := ?_) rfl (by kernel_rfl) (by kernel_rfl) (by kernel_rfl) (fun _ _ _ h => h) (Or.inl ⟨by rfl, ?_⟩) (by assumption) ?_
      rotate_left
      · (intro w hSw; (try dsimp only at hSw); go_simp; try rfl)
      try simp only [Act.put, List.setIfInBounds_toArray, List.set_cons_zero, List.set_cons_succ, List.getElem_toArray, List.getElem_cons_zero, List.getElem_cons_succ]
      refine wpAnyH_take (i := 10) (v := ?_) rfl (by kernel_rfl) (by kernel_rfl) (by kernel_rfl) (fun _ _ _ h => h) (Or.inl ⟨by rfl, ?_⟩) (by assumption) ?_
      rotate_left
      · (intro w hSw; (try dsimp only at hSw); go_simp; try rfl)
      try simp only [Act.put, List.setIfInBounds_toArray, List.set_cons_zero, List.set_cons_succ, List.getElem_toArray, List.getElem_cons_zero, List.getElem_cons_succ]
      refine wpAnyH_take (i := 11) (v := ?_) rfl (by kernel_rfl) (by kernel_rfl) (by kernel_rfl) (fun _ _ _ h => h) (Or.inl ⟨by rfl, ?_⟩) (by assumption) ?_
      rotate_left
      · (intro w hSw; (try dsimp only at hSw); go_simp; try rfl)
      try simp only [Act.put, List.setIfInBounds_toArray, List.set_cons_zero, List.set_cons_succ, List.getElem_toArray, List.getElem_cons_zero, List.getElem_cons_succ]
      refine wpAnyH_ready (rs := [1]) (by kernel_rfl) (by simp) ?_
      refine (AllReadyH.cons rfl (fun K hK => ?_) AllReadyH.nil)
      go_simp
      (go_at_call 16; refine (HBy.out _ hHeld.1).mono ?_; rintro e wb ⟨vb, he, ho8, hbb⟩; have he := he.out; subst he; have hs1 : Below Y.heap.size Y wb := below_self hHeld.1 hbb)
      refine hK.out _ _ ?_ (fun hHeld => ?_)
      · (first
        | exact HC.out _ hs2
        | exact HC.out _ hs1
        | exact HC.out _ (Below.refl _ _).drew
        | exact HC.out _ (Below.refl _ _)
        | fail)
      clear hK K
      try simp only [Act.put, List.setIfInBounds_toArray, List.set_cons_zero, List.set_cons_succ, List.getElem_toArray, List.getElem_cons_zero, List.getElem_cons_succ]
      refine wpAnyH_ready (rs := [2]) (by kernel_rfl) (by simp) ?_
      refine (AllReadyH.cons rfl (fun K hK => ?_) AllReadyH.nil)
      refine step_textD (by rfl) _ rfl vb J rfl (ho8.bt (by have := HJl.out; omega)) ?_
      rw [HTX.out]
      refine hK.out _ _ ?_ (fun hHeld => ?_)
      · (first
        | exact HC.out _ hs2
        | exact HC.out _ hs1
        | exact HC.out _ (Below.refl _ _).drew
        | exact HC.out _ (Below.refl _ _)
        | fail)
      clear hK K
      try simp only [Act.put, List.setIfInBounds_toArray, List.set_cons_zero, List.set_cons_succ, List.getElem_toArray, List.getElem_cons_zero, List.getElem_cons_succ]
      refine wpAnyH_take (i := 12) (v := ?_) rfl (by kernel_rfl) (by kernel_rfl) (by kernel_rfl) (fun _ _ _ h => h) (Or.inl ⟨by rfl, ?_⟩) (by assumption) ?_
      rotate_left
      · (intro w hSw; (try dsimp only at hSw); go_simp; try rfl)
      try simp only [Act.put, List.setIfInBounds_toArray, List.set_cons_zero, List.set_cons_succ, List.getElem_toArray, List.getElem_cons_zero, List.getElem_cons_succ]
      refine wpAnyH_take (i := 13) (v := ?_) rfl (by kernel_rfl) (by kernel_rfl) (by kernel_rfl) (fun _ _ _ h => h) (Or.inl ⟨by rfl, ?_⟩) (by assumption) ?_
      rotate_left
      · (intro w hSw; (try dsimp only at hSw); go_simp; try rfl)
      try simp only [Act.put, List.setIfInBounds_toArray, List.set_cons_zero, List.set_cons_succ, List.getElem_toArray, List.getElem_cons_zero, List.getElem_cons_succ]
      refine wpAnyH_take (i := 14) (v := ?_) rfl (by kernel_rfl) (by kernel_rfl) (by kernel_rfl) (fun _ _ _ h => h) (Or.inl ⟨by rfl, ?_⟩) (by assumption) ?_
      rotate_left
      · (intro w hSw; (try dsimp only at hSw); go_simp; try rfl)
      try simp only [Act.put, List.setIfInBounds_toArray, List.set_cons_zero, List.set_cons_succ, List.getElem_toArray, List.getElem_cons_zero, List.getElem_cons_succ]
      refine wpAnyH_take (i := 16) (v := ?_) rfl (by kernel_rfl) (by kernel_rfl) (by kernel_rfl) (fun _ _ _ h => h) (Or.inl ⟨by rfl, ?_⟩) (by assumption) ?_
      rotate_left
      · (intro w hSw; (try dsimp only at hSw); go_simp; try rfl)
      try simp only [Act.put, List.setIfInBounds_toArray, List.set_cons_zero, List.set_cons_succ, List.getElem_toArray, List.getElem_cons_zero, List.getElem_cons_succ]
      refine wpAnyH_take (i := 17) (v := ?_) rfl (by kernel_rfl) (by kernel_rfl) (by kernel_rfl) (fun _ _ _ h => h) (Or.inl ⟨by rfl, ?_⟩) (by assumption) ?_
      rotate_left
      · (intro w hSw; (try dsimp only at hSw); go_simp; try rfl)
      try simp only [Act.put, List.setIfInBounds_toArray, List.set_cons_zero, List.set_cons_succ, List.getElem_toArray, List.getElem_cons_zero, List.getElem_cons_succ]
      refine wpAnyH_take (i := 18) (v := ?_) rfl (by kernel_rfl) (by kernel_rfl) (by kernel_rfl) (fun _ _ _ h => h) (Or.inl ⟨by rfl, ?_⟩) (by assumption) ?_
      rotate_left
      · (intro w hSw; (try dsimp only at hSw); go_simp; try rfl)
      try simp only [Act.put, List.setIfInBounds_toArray, List.set_cons_zero, List.set_cons_succ, List.getElem_toArray, List.getElem_cons_zero, List.getElem_cons_succ]
      refine wpAnyH_take (i := 19) (v := ?_) rfl (by kernel_rfl) (by kernel_rfl) (by kernel_rfl) (fun _ _ _ h => h) (Or.inl ⟨by rfl, ?_⟩) (by assumption) ?_
      rotate_left
      · (intro w hSw; (try dsimp only at hSw); go_simp; try rfl)
      try simp only [Act.put, List.setIfInBounds_toArray, List.set_cons_zero, List.set_cons_succ, List.getElem_toArray, List.getElem_cons_zero, List.getElem_cons_succ]
      refine wpAnyH_take (i := 20) (v := ?_) rfl (by kernel_rfl) (by kernel_rfl) (by kernel_rfl) (fun _ _ _ h => h) (Or.inl ⟨by rfl, ?_⟩) (by assumption) ?_
      rotate_left
      · (intro w hSw; (try dsimp only at hSw); go_simp; try rfl)
      try simp only [Act.put, List.setIfInBounds_toArray, List.set_cons_zero, List.set_cons_succ, List.getElem_toArray, List.getElem_cons_zero, List.getElem_cons_succ]
      refine wpAnyH_ready (rs := [15]) (by kernel_rfl) (by simp) ?_
      refine (AllReadyH.cons rfl (fun K hK => ?_) AllReadyH.nil)
      go_simp
      (go_at_call 17; refine (HDi.out _ hHeld.1).mono ?_; rintro e wd ⟨rfl, hbd⟩; have hs2 : Below Y.heap.size Y wd := below_self hHeld.1 hbd)
      refine hK.out _ _ ?_ (fun hHeld => ?_)
      · (first
        | exact HC.out _ hs2
        | exact HC.out _ hs1
        | exact HC.out _ (Below.refl _ _).drew
        | exact HC.out _ (Below.refl _ _)
        | fail)
      clear hK K
      try simp only [Act.put, List.setIfInBounds_toArray, List.set_cons_zero, List.set_cons_succ, List.getElem_toArray, List.getElem_cons_zero, List.getElem_cons_succ]
      refine wpAnyH_take (i := 21) (v := ?_) rfl (by kernel_rfl) (by kernel_rfl) (by kernel_rfl) (fun _ _ _ h => h) (Or.inl ⟨by rfl, ?_⟩) (by assumption) ?_
      rotate_left
      · (intro w hSw; (try dsimp only at hSw); go_simp; try rfl)
      try simp only [Act.put, List.setIfInBounds_toArray, List.set_cons_zero, List.set_cons_succ, List.getElem_toArray, List.getElem_cons_zero, List.getElem_cons_succ]
      refine wpAnyH_take (i := 22) (v := ?_) rfl (by kernel_rfl) (by kernel_rfl) (by kernel_rfl) (fun _ _ _ h => h) (Or.inl ⟨by rfl, ?_⟩) (by assumption) ?_
      rotate_left
      · (intro w hSw; (try dsimp only at hSw); go_simp; try rfl)
      try simp only [Act.put, List.setIfInBounds_toArray, List.set_cons_zero, List.set_cons_succ, List.getElem_toArray, List.getElem_cons_zero, List.getElem_cons_succ]
      refine wpAnyH_done (by kernel_rfl) ?_ _
      have HLast := Lib.hid (HBY.out.trans ((hs2).mono HBY.out.size))
      have HDn := Lib.hid (HDY.out.below hs2)
      have HRn := Lib.hid (bk_below2 HRY.out hs2)
      clear hs1 hs2 hbb hbd ho8 HC HBy HDi HTX
      go_wp2_with fail
      go_roundw
      case rel => exact ⟨k + 1, o2, n2, _, by omega, by go_num, HS2, by rw [HJ.out]; exact HDn, HRn, HLast⟩
      case measure => simp [intOf]; omega
    · have e : k = N := by omega
      subst e
      have hd1 : decide ((k : Int) < (k : Int)) = false := decide_eq_false (by omega)
      have hd1n : decide (k < k) = false := decide_eq_false (by omega)
      go_wp2_with fail
      go_ret
      exact ⟨rfl, hB.out⟩
end Go.Proofs.Ytfobdkhmffphmaa
