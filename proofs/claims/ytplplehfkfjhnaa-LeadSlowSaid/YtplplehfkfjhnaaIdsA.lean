/-
  The walks of the document's put, Clean, Union, Less2.
-/
import Derived.Test.YtplplehfkfjhnaaIds9
namespace Go.Proofs.Ytplplehfkfjhnaa
open Go.RowKit Go.Sort Go.Shelf Go.Lib
set_option linter.unusedSimpArgs false
set_option linter.unusedVariables false

/-- One round of put. -/
def stpI (x : I3) (s : List I3 × Bool) (y : I3) : List I3 × Bool := if !s.2 && ltI x y then (s.1 ++ [x] ++ [y], true) else (s.1 ++ [y], s.2)
theorem stp_done (x : I3) : ∀ (l out : List I3), l.foldl (stpI x) (out, true) = (out ++ l, true)
  | [], out => by simp
  | y :: l, out => by
    rw [List.foldl_cons]
    have : stpI x (out, true) y = (out ++ [y], true) := by simp [stpI]
    rw [this, stp_done x l]
    simp
theorem stp_new (x : I3) : ∀ (l out : List I3), (if (l.foldl (stpI x) (out, false)).2 then (l.foldl (stpI x) (out, false)).1 else (l.foldl (stpI x) (out, false)).1 ++ [x]) = out ++ ((l.takeWhile fun y => !ltI x y) ++ x :: l.dropWhile fun y => !ltI x y)
  | [], out => by simp
  | y :: l, out => by
    rw [List.foldl_cons]
    cases q : ltI x y with
    | true =>
      have : stpI x (out, false) y = (out ++ [x] ++ [y], true) := by simp [stpI, q]
      rw [this, stp_done]
      simp [q]
    | false =>
      have : stpI x (out, false) y = (out ++ [y], false) := by simp [stpI, q]
      rw [this, stp_new x l]
      simp [q]
theorem stp_len (x : I3) : ∀ (l : List I3) (s : List I3 × Bool), (l.foldl (stpI x) s).1.length ≤ s.1.length + l.length + (if s.2 then 0 else 1)
  | [], s => by simp
  | y :: l, s => by
    rw [List.foldl_cons]
    have h := stp_len x l (stpI x s y)
    have h2 : (stpI x s y).1.length + (if (stpI x s y).2 then 0 else 1) ≤ s.1.length + 1 + (if s.2 then 0 else 1) := by
      unfold stpI
      split
      · rename_i q
        have : s.2 = false := by cases e : s.2 <;> simp [e] at q ⊢
        simp [this]
      · simp
    simp only [List.length_cons]
    omega
theorem putI_stp {l : List I3} {x : I3} (h : hasI l x = false) : putI l x = if (l.foldl (stpI x) ([], false)).2 then (l.foldl (stpI x) ([], false)).1 else (l.foldl (stpI x) ([], false)).1 ++ [x] := by
  rw [stp_new]
  unfold putI
  rw [h]
  simp
def PutP (b : Nat) (l : List I3) (w : World) (e : Ending) (w' : World) : Prop := ∃ v, Hid (e = .returned v) ∧ IK.Own w' b v l ∧ Below w.heap.size w w'
set_option maxRecDepth 100000 in
set_option maxHeartbeats 4000000 in
theorem put_any (b : Nat) (v : Value) (l : List I3) (x1 x2 x3 : Int) (w : World) (h : IK.Own w b v l) (hb : b ≤ w.heap.size) (hn : l.length ≤ 5000) :
    Calls Try.prog 59 #[v, .agg #[.int .i64 x1, .int .i64 x2, .int .i64 x3]] w (PutP b (putI l (x1, x2, x3)) w) := by
  have hbx : Below w.heap.size w (w.alloc (.cells #[.int .i64 x1, .int .i64 x2, .int .i64 x3] 27)) := (Below.refl _ _).alloc (Nat.le_refl _) _
  have hxc : ∀ j, (w.alloc (.cells #[.int .i64 x1, .int .i64 x2, .int .i64 x3] 27)).cell? ⟨w.heap.size, j, none⟩ = _ := fun j => new_cell w _ 27 j
  have hcon := rhas_any v l x1 x2 x3 _ (h.rd.below hbx) (by omega)
  obtain ⟨H, hH⟩ : ∃ H, hasI l (x1, x2, x3) = H := ⟨_, rfl⟩
  rw [hH] at hcon
  obtain ⟨a, c, e⟩ := h.slice
  subst e
  obtain ⟨N, hN⟩ : ∃ N, l.length = N := ⟨_, rfl⟩
  rw [hN] at hcon h hn ⊢
  obtain ⟨R, hR⟩ : ∃ R, putI l (x1, x2, x3) = R := ⟨_, rfl⟩
  rw [hR]
  have HR := Lib.hid hR
  have HN := Lib.hid hN
  have HO := Lib.hid h
  have HXC := Lib.hid hxc
  have HBX := Lib.hid hbx
  have HCON := Lib.hid hcon
  have HHH := Lib.hid hH
  have HBB := Lib.hid hb
  clear hN hR h hbx hxc hcon hH hb
  go_enter Try.func59, Try.ntmps59
  go_wp2_with fail
  refine HCON.out.mono ?_
  rintro e W1 ⟨rfl, hb1⟩
  simp only [World.size_alloc] at hb1
  obtain ⟨W0, hW0⟩ : ∃ W0, w.alloc (.cells #[.int .i64 x1, .int .i64 x2, .int .i64 x3] 27) = W0 := ⟨_, rfl⟩
  rw [hW0] at hb1 HXC HBX
  have HZ0 : Hid (W0.heap.size = w.heap.size + 1) := Lib.hid (by rw [← hW0]; simp)
  have HB1 : Hid (Below (w.heap.size + 1) W0 W1) := Lib.hid hb1
  clear HCON hb1 hW0
  cases H with
  | true =>
    have e : R = l := by rw [← HR.out]; unfold putI; rw [HHH.out]; rfl
    subst e
    have HBW : Hid (Below w.heap.size w W1) := Lib.hid (HBX.out.trans (HB1.out.mono (by omega)))
    go_wp2
    go_ret
    exact ⟨_, Lib.hid rfl, HO.out.below HBW.out, HBW.out⟩
  | false =>
    have HPU := Lib.hid (putI_stp HHH.out)
    have hz1 := HB1.out.size
    have hz0 := HZ0.out
    rw [hz0] at hz1
    go_wp2_with fail
    go_loopw [5, 6, 7] (fun o d i wr => ∃ (k : Nat) (vo : Value) (db : Bool) (ss : List I3), k ≤ N ∧ vo = o ∧ d = .bool db ∧ i = .int .i64 k ∧ Hid (IK.Own wr (w.heap.size + 1) vo ss) ∧ Hid ((l.take k).foldl (stpI (x1, x2, x3)) ([], false) = (ss, db)) ∧ Hid (Below (w.heap.size + 1) W0 wr)) (fun _ _ i _ => N - (intOf i).toNat)
    case atStart => exact ⟨0, _, false, [], Nat.zero_le _, rfl, rfl, rfl, Lib.hid (Knd.Own.nil _ _), Lib.hid rfl, HB1⟩
    case round =>
      clear hz1 hz0
      obtain ⟨k, vo, db, ss, hk, rfl, rfl, rfl, hO, hF, hB⟩ := hrel
      have hz0 := HZ0.out
      have hzr := hB.out.size
      rw [hz0] at hzr
      have hBw : Below w.heap.size w wr := HBX.out.trans (hB.out.mono (by omega))
      by_cases hlt : k < N
      · have hlt' : (k : Int) < (N : Int) := by omega
        have hkb : (k : Int) ≤ 5000 := by omega
        obtain ⟨e0, g2, off2, hda, hg2, q1, q2, q3, hjl⟩ := idCell (HO.out.rd.below hBw) k hlt
        obtain ⟨⟨y1, y2, y3⟩, hX⟩ : ∃ X, l.getD k (0, 0, 0) = X := ⟨_, rfl⟩
        rw [hX] at q1 q2 q3
        have hzx : w.heap.size < w.heap.size + 1 := by omega
        have p1 : wr.cell? ⟨w.heap.size, 0, none⟩ = some (.int .i64 x1) := (hB.out.cell (p := ⟨w.heap.size, 0, none⟩) hzx).trans (HXC.out 0)
        have p2 : wr.cell? ⟨w.heap.size, 1, none⟩ = some (.int .i64 x2) := (hB.out.cell (p := ⟨w.heap.size, 1, none⟩) hzx).trans (HXC.out 1)
        have p3 : wr.cell? ⟨w.heap.size, 2, none⟩ = some (.int .i64 x3) := (hB.out.cell (p := ⟨w.heap.size, 2, none⟩) hzx).trans (HXC.out 2)
        have HTK : Hid ((l.take (k + 1)).foldl (stpI (x1, x2, x3)) ([], false) = stpI (x1, x2, x3) (ss, db) (y1, y2, y3)) := Lib.hid (by
          rw [List.take_succ_eq_append_getElem hjl, List.foldl_append, hF.out]
          have : l[k] = (y1, y2, y3) := by rw [← hX]; simp [List.getD, hjl]
          rw [this]; rfl)
        have hsl := stp_len (x1, x2, x3) (l.take k) ([], false)
        rw [hF.out] at hsl
        simp at hsl
        have hss : ss.length + 1 ≤ 1000000 := by omega
        have HSL : Hid (ss.length ≤ 100000) := Lib.hid (by omega)
        have HBW := Lib.hid hBw
        have HX := Lib.hid hX
        subst hda
        clear hX hjl e0 hBw hsl hF
        have Q1 := Lib.hid q1
        have P1 := Lib.hid p1
        have Q2 := Lib.hid q2
        have P2 := Lib.hid p2
        have Q3 := Lib.hid q3
        have P3 := Lib.hid p3
        have hzw : w.heap.size < wr.heap.size := by omega
        cases db with
        | true =>
          have HT2 : Hid ((l.take (k + 1)).foldl (stpI (x1, x2, x3)) ([], false) = (ss ++ [(y1, y2, y3)], true)) := Lib.hid (by rw [HTK.out]; simp [stpI])
          go_wp2_with fail
          go_quiet (fail)
          generalize hwd : World.drewN wr _ = wd
          have hS : Hid (Below wr.heap.size wr wd) := Lib.hid (by rw [← hwd]; exact below_drewN_q (Below.refl _ _) _)
          clear hwd q1 q2 q3 p1 p2 p3
          have BN : Hid (Below (w.heap.size + 1) W0 wd) := Lib.hid (hB.out.trans (hS.out.mono (by have := hB.out.size; rw [HZ0.out] at this; omega)))
          have ON := Lib.hid (hO.out.below hS.out)
          have hzn := BN.out.size
          rw [HZ0.out] at hzn
          have q1 : wd.cell? ⟨g2, off2 + k * 3, none⟩ = some (.int .i64 y1) := (hS.out.cell (p := ⟨g2, off2 + k * 3, none⟩) hg2).trans Q1.out
          have q2 : wd.cell? ⟨g2, off2 + k * 3 + 1, none⟩ = some (.int .i64 y2) := (hS.out.cell (p := ⟨g2, off2 + k * 3 + 1, none⟩) hg2).trans Q2.out
          have q3 : wd.cell? ⟨g2, off2 + k * 3 + 2, none⟩ = some (.int .i64 y3) := (hS.out.cell (p := ⟨g2, off2 + k * 3 + 2, none⟩) hg2).trans Q3.out
          clear hB hO
          go_wp2_with (refine IK.app rfl _ _ rfl (w.heap.size + 1) vo ss rfl ?own _ [(y1, y2, y3)] rfl ?rd hss ?bs ?_)
          case own => exact ON.out.below ((Below.refl _ _).alloc (Nat.le_refl _) _)
          case rd => exact IK.rd_boxAt (y1, y2, y3) _ 1 _ _ (by simp)
          case bs => first | omega | (simp; omega) | fail
          intro v8 w8 ho hb hg hn
          have O8 := Lib.hid ho
          have B8 : Hid (Below (w.heap.size + 1) W0 w8) := Lib.hid ((BN.out.alloc (by have := BN.out.size; rw [HZ0.out] at this; omega) _).trans hb)
          clear ho hb hg hn
          clear q1 q2 q3 ON BN
          go_wp2
          go_roundw
          case rel => exact ⟨k + 1, v8, true, _, by omega, rfl, rfl, by go_num, O8, HT2, B8⟩
          case measure => simp [intOf]; omega
        | false =>
          have hcl := fun W => rless_any x1 x2 x3 y1 y2 y3 W
          obtain ⟨bl, hbl⟩ : ∃ bl, ltI (x1, x2, x3) (y1, y2, y3) = bl := ⟨_, rfl⟩
          rw [hbl] at hcl
          have HC := Lib.hid hcl
          have HBL := Lib.hid hbl
          clear hcl hbl
          cases bl with
          | false =>
            have HT2 : Hid ((l.take (k + 1)).foldl (stpI (x1, x2, x3)) ([], false) = (ss ++ [(y1, y2, y3)], false)) := Lib.hid (by rw [HTK.out]; simp [stpI, HBL.out])
            go_wp2_with fail
            go_region_held3 (fun w' => w'.cell? ⟨g2, off2 + k * 3, none⟩ = some (.int .i64 y1) ∧ w'.cell? ⟨g2, off2 + k * 3 + 1, none⟩ = some (.int .i64 y2) ∧ w'.cell? ⟨g2, off2 + k * 3 + 2, none⟩ = some (.int .i64 y3) ∧ w'.cell? ⟨w.heap.size, 0, none⟩ = some (.int .i64 x1) ∧ w'.cell? ⟨w.heap.size, 0 + 1, none⟩ = some (.int .i64 x2) ∧ w'.cell? ⟨w.heap.size, 0 + 2, none⟩ = some (.int .i64 x3) ∧ Below wr.heap.size wr w')
              (first
                | exact keep6 hg2 hzw q1 q2 q3 p1 p2 p3 (Below.refl _ _).drew
                | (go_split_ands; exact keep6 hg2 hzw q1 q2 q3 p1 p2 p3 (by assumption)))
              (first
                | (go_at_call 70; go_split_ands; refine (HC.out _).mono ?_; rintro e w7 ⟨rfl, hg7⟩; have hS7 : Below wr.heap.size wr w7 := below_self (by assumption) hg7.below)
                | fail)
            go_split_ands
            have hS := Lib.hid hS7
            clear hS7 hg7 q1 q2 q3 p1 p2 p3
            have BN : Hid (Below (w.heap.size + 1) W0 w7) := Lib.hid (hB.out.trans (hS.out.mono (by have := hB.out.size; rw [HZ0.out] at this; omega)))
            have ON := Lib.hid (hO.out.below hS.out)
            have hzn := BN.out.size
            rw [HZ0.out] at hzn
            have q1 : w7.cell? ⟨g2, off2 + k * 3, none⟩ = some (.int .i64 y1) := (hS.out.cell (p := ⟨g2, off2 + k * 3, none⟩) hg2).trans Q1.out
            have q2 : w7.cell? ⟨g2, off2 + k * 3 + 1, none⟩ = some (.int .i64 y2) := (hS.out.cell (p := ⟨g2, off2 + k * 3 + 1, none⟩) hg2).trans Q2.out
            have q3 : w7.cell? ⟨g2, off2 + k * 3 + 2, none⟩ = some (.int .i64 y3) := (hS.out.cell (p := ⟨g2, off2 + k * 3 + 2, none⟩) hg2).trans Q3.out
            clear hB hO
            go_wp2_with (refine IK.app rfl _ _ rfl (w.heap.size + 1) vo ss rfl ?own _ [(y1, y2, y3)] rfl ?rd hss ?bs ?_)
            case own => exact ON.out.below ((Below.refl _ _).alloc (Nat.le_refl _) _)
            case rd => exact IK.rd_boxAt (y1, y2, y3) _ 1 _ _ (by simp)
            case bs => first | omega | (simp; omega) | fail
            intro v8 w8 ho hb hg hn
            have O8 := Lib.hid ho
            have B8 : Hid (Below (w.heap.size + 1) W0 w8) := Lib.hid ((BN.out.alloc (by have := BN.out.size; rw [HZ0.out] at this; omega) _).trans hb)
            clear ho hb hg hn
            clear q1 q2 q3 ON BN
            go_wp2
            go_roundw
            case rel => exact ⟨k + 1, v8, false, _, by omega, rfl, rfl, by go_num, O8, HT2, B8⟩
            case measure => simp [intOf]; omega
          | true =>
            have HT2 : Hid ((l.take (k + 1)).foldl (stpI (x1, x2, x3)) ([], false) = (ss ++ [(x1, x2, x3), (y1, y2, y3)], true)) := Lib.hid (by rw [HTK.out]; simp [stpI, HBL.out])
            go_wp2_with fail
            go_region_held3 (fun w' => w'.cell? ⟨g2, off2 + k * 3, none⟩ = some (.int .i64 y1) ∧ w'.cell? ⟨g2, off2 + k * 3 + 1, none⟩ = some (.int .i64 y2) ∧ w'.cell? ⟨g2, off2 + k * 3 + 2, none⟩ = some (.int .i64 y3) ∧ w'.cell? ⟨w.heap.size, 0, none⟩ = some (.int .i64 x1) ∧ w'.cell? ⟨w.heap.size, 0 + 1, none⟩ = some (.int .i64 x2) ∧ w'.cell? ⟨w.heap.size, 0 + 2, none⟩ = some (.int .i64 x3) ∧ Below wr.heap.size wr w')
              (first
                | exact keep6 hg2 hzw q1 q2 q3 p1 p2 p3 (Below.refl _ _).drew
                | (go_split_ands; exact keep6 hg2 hzw q1 q2 q3 p1 p2 p3 (by assumption)))
              (first
                | (go_at_call 70; go_split_ands; refine (HC.out _).mono ?_; rintro e w7 ⟨rfl, hg7⟩; have hS7 : Below wr.heap.size wr w7 := below_self (by assumption) hg7.below)
                | fail)
            go_split_ands
            have hS := Lib.hid hS7
            clear hS7 hg7 q1 q2 q3 p1 p2 p3
            have BN : Hid (Below (w.heap.size + 1) W0 w7) := Lib.hid (hB.out.trans (hS.out.mono (by have := hB.out.size; rw [HZ0.out] at this; omega)))
            have ON := Lib.hid (hO.out.below hS.out)
            have hzn := BN.out.size
            rw [HZ0.out] at hzn
            have p1 : w7.cell? ⟨w.heap.size, 0, none⟩ = some (.int .i64 x1) := (hS.out.cell (p := ⟨w.heap.size, 0, none⟩) (by omega)).trans P1.out
            have p2 : w7.cell? ⟨w.heap.size, 1, none⟩ = some (.int .i64 x2) := (hS.out.cell (p := ⟨w.heap.size, 1, none⟩) (by omega)).trans P2.out
            have p3 : w7.cell? ⟨w.heap.size, 2, none⟩ = some (.int .i64 x3) := (hS.out.cell (p := ⟨w.heap.size, 2, none⟩) (by omega)).trans P3.out
            clear hO
            go_wp2_with (refine IK.app rfl _ _ rfl (w.heap.size + 1) vo ss rfl ?own _ [(x1, x2, x3)] rfl ?rd hss ?bs ?_)
            case own => exact ON.out.below ((Below.refl _ _).alloc (Nat.le_refl _) _)
            case rd => exact IK.rd_boxAt (x1, x2, x3) _ 1 _ _ (by simp)
            case bs => first | omega | (simp; omega) | fail
            intro v8 w8 ho hb hg hn
            have O8 := Lib.hid ho
            have B8 : Hid (Below (w.heap.size + 1) W0 w8) := Lib.hid ((BN.out.alloc (by have := BN.out.size; rw [HZ0.out] at this; omega) _).trans hb)
            clear ho hb hg hn
            clear p1 p2 p3 ON
            have hb8 : Below w.heap.size w w8 := HBX.out.trans (B8.out.mono (by omega))
            obtain ⟨e0, g3, off3, hda, hg3, q1, q2, q3, hjl⟩ := idCell (HO.out.rd.below hb8) k hlt
            simp only [Option.some.injEq, Addr.mk.injEq, and_true] at hda
            obtain ⟨rfl, rfl⟩ := hda
            rw [HX.out] at q1 q2 q3
            have hzm := B8.out.size
            rw [HZ0.out] at hzm
            have hss2 : (ss ++ [((x1, x2, x3) : I3)]).length + 1 ≤ 1000000 := by have := HSL.out; simp; omega
            clear e0 hjl hb8 hB BN
            go_wp2_with (refine IK.app rfl _ _ rfl (w.heap.size + 1) v8 (ss ++ [(x1, x2, x3)]) rfl ?own _ [(y1, y2, y3)] rfl ?rd hss2 ?bs ?_)
            case own => exact O8.out.below ((Below.refl _ _).alloc (Nat.le_refl _) _)
            case rd => exact IK.rd_boxAt (y1, y2, y3) _ 1 _ _ (by simp)
            case bs => first | omega | (simp; omega) | fail
            intro v9 w9 ho hb hg hn
            have O9 := Lib.hid ho
            have B9 : Hid (Below (w.heap.size + 1) W0 w9) := Lib.hid ((B8.out.alloc (by have := B8.out.size; rw [HZ0.out] at this; omega) _).trans hb)
            clear ho hb hg hn
            clear q1 q2 q3 O8 B8
            go_wp2
            go_roundw
            case rel => exact ⟨k + 1, v9, true, _, by omega, rfl, rfl, by go_num, O9, HT2, B9⟩
            case measure => simp [intOf]; omega
      · obtain rfl : k = N := by omega
        have hF2 := hF.out
        rw [List.take_of_length_le (by rw [HN.out]; exact Nat.le_refl _)] at hF2
        have hRR : R = if db then ss else ss ++ [(x1, x2, x3)] := by
          rw [← HR.out, HPU.out, hF2]
        have hsl := stp_len (x1, x2, x3) l ([], false)
        rw [hF2, HN.out] at hsl
        simp at hsl
        have hss : ss.length + 1 ≤ 1000000 := by omega
        have HBW := Lib.hid hBw
        have hbO := HBB.out
        clear hF2 hF hsl hBw
        cases db with
        | true =>
          simp only [if_true] at hRR
          subst hRR
          go_wp2
          go_ret
          exact ⟨_, Lib.hid rfl, hO.out.base (by omega), HBW.out⟩
        | false =>
          simp only [if_false, Bool.false_eq_true] at hRR
          subst hRR
          have hzx : w.heap.size < w.heap.size + 1 := by omega
          have p1 : wr.cell? ⟨w.heap.size, 0, none⟩ = some (.int .i64 x1) := (hB.out.cell (p := ⟨w.heap.size, 0, none⟩) hzx).trans (HXC.out 0)
          have p2 : wr.cell? ⟨w.heap.size, 1, none⟩ = some (.int .i64 x2) := (hB.out.cell (p := ⟨w.heap.size, 1, none⟩) hzx).trans (HXC.out 1)
          have p3 : wr.cell? ⟨w.heap.size, 2, none⟩ = some (.int .i64 x3) := (hB.out.cell (p := ⟨w.heap.size, 2, none⟩) hzx).trans (HXC.out 2)
          go_wp2_with (refine IK.app rfl _ _ rfl (w.heap.size + 1) vo ss rfl ?own _ [(x1, x2, x3)] rfl ?rd hss ?bs ?_)
          case own => exact hO.out.below ((Below.refl _ _).alloc (Nat.le_refl _) _)
          case rd => exact IK.rd_boxAt (x1, x2, x3) _ 1 _ _ (by simp)
          case bs => first | omega | (simp; omega) | fail
          intro v8 w8 ho hb hg hn
          have O8 := Lib.hid ho
          have B8 : Hid (Below (w.heap.size + 1) W0 w8) := Lib.hid ((hB.out.alloc (by have := hB.out.size; rw [HZ0.out] at this; omega) _).trans hb)
          clear ho hb hg hn
          go_wp2
          go_ret
          exact ⟨_, Lib.hid rfl, O8.out.base (by omega), HBX.out.trans (B8.out.mono (by omega))⟩
end Go.Proofs.Ytplplehfkfjhnaa
