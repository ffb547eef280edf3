/-
  The walks of package frame's Join, and of what the laws of joins begin with.
-/
import Derived.Test.YtcieilbnlbielaaFrmA
import Derived.Test.YtcieilbnlbielaaStrs
namespace Go.Proofs.Ytcieilbnlbielaa
open Go.RowKit
set_option linter.unusedSimpArgs false
set_option linter.unusedVariables false

def overB (ss : List ByteArray) : Bool := ss.any (fun s => decide (500 < s.size)) || decide (60 < ss.length)
set_option maxHeartbeats 1600000 in
theorem over_any (a : Option Addr) (cap : Nat) (ss : List ByteArray) (w : World) (hs : SRd w a ss) : Calls Try.prog 16 #[.slice a ss.length cap] w fun e w' => e = .returned (.bool (overB ss)) ∧ w = w' := by
  have HS := Lib.hid hs
  have hn := hs.1
  clear hs
  go_enter Try.func16, Try.ntmps16
  go_wp2
  go_loop [3] (fun c => ∃ k : Nat, k ≤ ss.length ∧ c = .int .i64 k ∧ Hid (∀ j, j < k → (ss.getD j ByteArray.empty).size ≤ 500)) (fun c => ss.length - (intOf c).toNat)
  case atStart => exact ⟨0, by omega, rfl, fun j h => by omega⟩
  case round =>
    obtain ⟨k, hk, rfl, hF⟩ := hrel
    by_cases hlt : k < ss.length
    · obtain ⟨g, off, rfl, hg, hc⟩ := HS.out.cell k hlt
      obtain ⟨s, hs⟩ : ∃ s, ss.getD k ByteArray.empty = s := ⟨_, rfl⟩
      rw [hs] at hc
      have HE := Lib.hid hs
      clear hs
      have hlt' : (k : Int) < (ss.length : Int) := by omega
      by_cases c5 : (500 : Int) < s.size
      · have hy : Hid (overB ss = true) := by
          unfold Hid overB
          rw [Bool.or_eq_true, List.any_eq_true]
          left
          refine ⟨s, ?_, by simp; omega⟩
          have := HE.out
          simp only [List.getD, List.getElem?_eq_getElem hlt, Option.getD_some] at this
          rw [← this]; exact List.getElem_mem hlt
        clear HS hF HE
        go_wp2
        go_ret
        exact ⟨by rw [hy.out]; rfl, rfl⟩
      · go_wp2
        go_round
        case rel =>
          refine ⟨k + 1, by omega, by go_num, fun j hj => ?_⟩
          by_cases q : j = k
          · subst q; rw [HE.out]; omega
          · exact hF.out j (by omega)
        case measure => simp [intOf]; omega
    · have hlt' : ¬ (k : Int) < (ss.length : Int) := by omega
      have hy : Hid (overB ss = decide ((60 : Int) < (ss.length : Int))) := by
        unfold Hid overB
        have : ss.any (fun s => decide (500 < s.size)) = false := by
          rw [Bool.eq_false_iff, ne_eq, List.any_eq_true]
          rintro ⟨s, q1, q2⟩
          obtain ⟨j, hj, rfl⟩ := List.getElem_of_mem q1
          have := hF.out j (by omega)
          simp only [List.getD, List.getElem?_eq_getElem hj, Option.getD_some] at this
          simp at q2
          omega
        rw [this, Bool.false_or, Bool.eq_iff_iff]
        simp
        omega
      clear HS hF
      go_wp2
      go_ret
      exact ⟨by rw [hy.out]; rfl, rfl⟩
/-- A row of bytes that begins its block. -/
def BtU (w : World) (v : Value) (xs : List Int) : Prop := Bt w v xs ∧ ∃ g n c cs fr, v = .slice (some ⟨g, 0, none⟩) n c ∧ w.heap[g]? = some (Obj.cells cs 5 fr)
theorem BtU.keep {W W' : World} {v : Value} {xs : List Int} (h : BtU W v xs) (hk : ∀ (k : Nat) (cs : Array Value) (fr : Nat × Nat), W.heap[k]? = some (Obj.cells cs 5 fr) → W'.heap[k]? = W.heap[k]?) : BtU W' v xs := by
  obtain ⟨h1, g, n, c, cs, fr, rfl, hh⟩ := h
  have e := hk _ _ _ hh
  refine ⟨?_, g, n, c, cs, fr, rfl, e.trans hh⟩
  obtain ⟨a, cap, q, q1, q2⟩ := h1.row
  simp only [Value.slice.injEq] at q
  obtain ⟨rfl, rfl, rfl⟩ := q
  refine ⟨_, _, rfl, ⟨q1.1, ?_⟩, q2⟩
  rcases q1.2 with h0 | ⟨b, off, ha, hb, hc⟩
  · exact .inl h0
  · simp only [Option.some.injEq, Addr.mk.injEq] at ha
    obtain ⟨rfl, rfl, _⟩ := ha
    have hgl : g < W'.heap.size := (Array.getElem?_eq_some_iff.1 (e.trans hh)).1
    exact .inr ⟨g, 0, rfl, hgl, fun i hi => (World.cell?_of_block (w := W) e).trans (hc i hi)⟩
section
variable {ops : Array Oper} {rest : List Oper} {o : Oper} {a : Act} {w : World} {Q : Exit → Act → World → Prop}
theorem wpList_bytesU (hw : Region.wanted o (yielded ops a.tmps) = true) (x : Operand)
    (ho : o.op = .convert 9 23 x) (s : ByteArray) (hx : a.eval x = .string s) (hl : s.size ≤ 9223372036854775807)
    (h : ∀ v' w', BtU w' v' (byt s) → w.heap.size + 1 = w'.heap.size → Below w.heap.size w w' → wpList Try.prog ops Q rest (a.put o.dst v') w') : wpList Try.prog ops Q (o :: rest) a w := by
  obtain ⟨v', w', hr, h1, h2, h3⟩ := bt_bytes (P := Try.prog) w 9 23 5 s hl Try.underlying9 Try.underlying23 Try.underlying5
  have hr0 := run_bytes_of_string (P := Try.prog) w 9 23 5 s Try.underlying9 Try.underlying23 Try.underlying5
  have hu : BtU w' v' (byt s) := by
    refine ⟨h1, ?_⟩
    rw [hr] at hr0
    simp only [Result.ok.injEq] at hr0
    obtain ⟨e1, e2⟩ := hr0
    subst e1 e2
    exact ⟨_, _, _, _, _, rfl, heap_alloc_new w.drew _⟩
  refine wpList_step fun K hK => ?_
  rw [if_pos hw]
  unfold Oper.wp execOp
  simp only [ho, hx, hr, Sem.run_bind, Sem.run_pure, Result.andThen_ok]
  exact hK _ _ (h v' w' hu h2 h3)
end
def BodP (ss : List ByteArray) (w : World) (e : Ending) (w' : World) : Prop := ∃ lv, Hid (e = .returned lv) ∧ AllRow w' lv (ss.map byt) ∧ Below w.heap.size w w'
set_option maxRecDepth 100000 in
set_option maxHeartbeats 4000000 in
theorem bod_any (a : Option Addr) (cap : Nat) (ss : List ByteArray) (w : World) (hs : SRd w a ss) (hsz : ∀ s ∈ ss, s.size ≤ maxLen) (hn : ss.length ≤ 1000000000) : Calls Try.prog 18 #[.slice a ss.length cap] w (BodP ss w) := by
  have HS := Lib.hid hs
  have HZ := Lib.hid hsz
  clear hs hsz
  go_enter Try.func18, Try.ntmps18
  go_wp2
  go_loopw [3, 4] (fun l c wr => ∃ (k : Nat) (vs : List Value), k ≤ ss.length ∧ vs.length = k ∧ c = .int .i64 k ∧ Hid (Own1 wr w.heap.size 23 l vs) ∧ Hid (∀ j, j < k → BtU wr (vs.getD j undef) (byt (ss.getD j ByteArray.empty))) ∧ Hid (Below w.heap.size w wr)) (fun _ c _ => ss.length - (intOf c).toNat)
  case atStart => exact ⟨0, [], by omega, rfl, rfl, Own1.nil _ _ _, fun j h => by omega, Below.refl _ _⟩
  case round =>
    obtain ⟨k, vs, hk, hvk, rfl, hO, hU, hB⟩ := hrel
    by_cases hlt : k < ss.length
    · obtain ⟨g, off, rfl, hg, hc⟩ := HS.out.cell k hlt
      obtain ⟨s, hs⟩ : ∃ s, ss.getD k ByteArray.empty = s := ⟨_, rfl⟩
      rw [hs] at hc
      have hsm : s ∈ ss := by
        rw [← hs]; simp only [List.getD, List.getElem?_eq_getElem hlt, Option.getD_some]; exact List.getElem_mem hlt
      have hss := HZ.out s hsm
      have HE := Lib.hid hs
      have hc' : wr.cell? ⟨g, off + k, none⟩ = some (.string s) := (hB.out.cell (p := ⟨g, off + k, none⟩) hg).trans hc
      have HVK := Lib.hid hvk
      clear hs hc hsm hvk
      go_wp2_with (refine wpList_bytesU (o := ⟨some 16, _, _, _, _, _⟩) rfl _ rfl s rfl hss ?_)
      intro v1 w1 hu1 hz1 hb1
      have hu0 := hu1
      obtain ⟨hbt1, g1, n1, c1, cs1, fr1, rfl, hh1⟩ := hu1
      have hU1 : ∀ j, j < k → BtU w1 (vs.getD j undef) (byt (ss.getD j ByteArray.empty)) := fun j hj => (hU.out j hj).keep (fun q cs fr hq => hb1.block q (Array.getElem?_eq_some_iff.1 hq).1)
      have hO1 := hO.out.below hb1
      have hB1 := below_self hB.out hb1
      have HU0 := Lib.hid hu0
      have HU1 := Lib.hid hU1
      have HO1 := Lib.hid hO1
      have HB1 := Lib.hid hB1
      have hzb := hB1.size
      clear hu0 hU1 hO1 hB1 hbt1 hh1 hb1 hO hU hB hc'
      go_wp2_with (refine wpList_app1 rfl _ _ 33 23 _ 24 rfl Try.underlying33 infoRow rfl (by omega) w.heap.size _ vs rfl (HO1.out.below ((Below.refl _ _).alloc (Nat.le_refl _) _)) w1.heap.size (.slice (some ⟨g1, 0, none⟩) n1 c1) rfl ?hu rfl (by rw [HVK.out]; omega) (by simp; omega) ?_)
      case hu => simp [go_sem]
      intro v2 w2 ho2 hb2 hz2 hgrow2
      have hkept : ∀ (q : Nat) (cs : Array Value) (fr : Nat × Nat), w1.heap[q]? = some (Obj.cells cs 5 fr) → w2.heap[q]? = w1.heap[q]? := by
        intro q cs fr hq
        have hql := (Array.getElem?_eq_some_iff.1 hq).1
        rw [← Below.heap_alloc w1 (.cells #[.slice (some ⟨g1, 0, none⟩) n1 c1] 23) q hql]
        refine hgrow2.block q (by simp; omega) ?_
        intro e
        rcases HO1.out.2 with ⟨h0, _⟩ | ⟨g, cp, cur, h0, _, hh, _⟩
        · rw [h0] at e; cases e
        · rw [h0] at e
          simp only [Value.ownBlock, Option.some.injEq] at e
          subst e
          rw [hh] at hq
          cases hq
      have hU2 : ∀ j, j < k + 1 → BtU w2 ((vs ++ [Value.slice (some ⟨g1, 0, none⟩) n1 c1]).getD j undef) (byt (ss.getD j ByteArray.empty)) := by
        intro j hj
        by_cases q : j = k
        · subst q
          rw [HE.out]
          have : (vs ++ [Value.slice (some ⟨g1, 0, none⟩) n1 c1]).getD j undef = .slice (some ⟨g1, 0, none⟩) n1 c1 := by simp [List.getD, ← HVK.out]
          rw [this]
          exact HU0.out.keep hkept
        · have : (vs ++ [Value.slice (some ⟨g1, 0, none⟩) n1 c1]).getD j undef = vs.getD j undef := by
            simp only [List.getD]
            rw [List.getElem?_append_left (by rw [HVK.out]; omega)]
          rw [this]
          exact (HU1.out j (by omega)).keep hkept
      have HU2 := Lib.hid hU2
      have HO2 := Lib.hid ho2
      have HB2 : Hid (Below w.heap.size w w2) := (HB1.out.alloc hzb _).trans hb2
      clear hU2 hkept hgrow2 ho2 hb2 hz2 HU0 HU1 HO1 HB1
      go_wp2
      go_roundw
      case rel => exact ⟨k + 1, _, by omega, by rw [List.length_append, HVK.out]; rfl, by go_num, HO2.out, HU2.out, HB2.out⟩
      case measure => simp [intOf]; omega
    · have hlt' : ¬ (k : Int) < (ss.length : Int) := by omega
      have hkn : k = ss.length := by omega
      have hrow : AllRow wr u3 (ss.map byt) := by
        have hL : (ss.map byt).length = vs.length := by rw [List.length_map, hvk, hkn]
        refine ⟨?_, fun j hj => ?_⟩
        · obtain ⟨a', c', e⟩ := hO.out.slice
          exact ⟨a', c', by rw [e, hL]⟩
        · obtain ⟨g, c, e, hg, hc⟩ := hO.out.cell j (by omega)
          refine ⟨g, c, _, by rw [e, hL], hg, hc, ?_⟩
          have hj2 : j < ss.length := by simpa using hj
          have := (hU.out j (by omega)).1
          rw [show (ss.map byt).getD j [] = byt (ss.getD j ByteArray.empty) from by simp [List.getD, hj2]]
          exact this
      have HR := Lib.hid hrow
      clear hrow hU hO hvk hkn
      go_wp2
      go_ret
      exact ⟨u3, rfl, HR.out, hB.out⟩
/-- Frames, one behind another. -/
def joinN (L : List (List Int)) : List Int := (L.map frm).flatten
theorem joinN_snoc (L : List (List Int)) (x : List Int) : joinN (L ++ [x]) = joinN L ++ frm x := by simp [joinN]
theorem joinN_len (L : List (List Int)) : (joinN L).length = totL L := by
  induction L with
  | nil => rfl
  | cons x r ih => simp only [joinN, totL, List.map_cons, List.flatten_cons, List.length_append, frm_length, List.sum_cons] at ih ⊢; omega
theorem totL_le (L : List (List Int)) (h : ∀ X ∈ L, X.length ≤ 500) : totL L ≤ 508 * L.length := by
  induction L with
  | nil => simp [totL]
  | cons x r ih =>
    have := h x (by simp)
    have := ih (fun X q => h X (by simp [q]))
    simp only [totL, List.map_cons, List.sum_cons, List.length_cons] at this ⊢
    omega
def JoinP (L : List (List Int)) (w : World) (e : Ending) (w' : World) : Prop := ∃ v', Hid (e = .returned (.tuple #[v', .int .i64 0])) ∧ Own8 w' w.heap.size v' (joinN L) ∧ Below w.heap.size w w'
set_option maxRecDepth 100000 in
set_option maxHeartbeats 4000000 in
theorem join_any (lv : Value) (L : List (List Int)) (w : World) (hr : AllRow w lv L) (hx : ∀ X ∈ L, X.length ≤ 500 ∧ ∀ x ∈ X, 0 ≤ x ∧ x ≤ 255) (hn : L.length ≤ 1000) : Calls Try.prog 17 #[lv] w (JoinP L w) := by
  have HR := Lib.hid hr
  have HX := Lib.hid hx
  obtain ⟨a, c, rfl⟩ := hr.row
  clear hr hx
  go_enter Try.func17, Try.ntmps17
  go_wp2
  go_loopw [4, 11] (fun bv c wr => ∃ (k : Nat), k ≤ L.length ∧ c = .int .i64 k ∧ Hid (Own8 wr w.heap.size bv (joinN (L.take k))) ∧ Hid (Below w.heap.size w wr)) (fun _ c _ => L.length - (intOf c).toNat)
  case atStart => exact ⟨0, by omega, rfl, Own8.nil _ _, Below.refl _ _⟩
  case round =>
    obtain ⟨k, hk, rfl, hO, hB⟩ := hrel
    by_cases hlt : k < L.length
    · obtain ⟨g, c', xv, e, hg, hc, ht⟩ := (HR.out.below hB.out).cell k hlt
      simp only [Value.slice.injEq] at e
      obtain ⟨rfl, _, rfl⟩ := e
      obtain ⟨X, hX⟩ : ∃ X, L.getD k [] = X := ⟨_, rfl⟩
      rw [hX] at ht
      have hXL : X ∈ L := by rw [← hX]; simp only [List.getD, List.getElem?_eq_getElem hlt, Option.getD_some]; exact List.getElem_mem hlt
      have hx5 := HX.out X hXL
      have htk : L.take (k + 1) = L.take k ++ [X] := by
        rw [List.take_add_one, List.getElem?_eq_getElem hlt, ← hX]
        simp [List.getD, hlt]
      have HTK := Lib.hid htk
      have hlen : (joinN (L.take k)).length ≤ 508 * k := by
        rw [joinN_len]
        have := totL_le (L.take k) (fun Y q => (HX.out Y (List.mem_of_mem_take q)).1)
        rw [List.length_take] at this
        omega
      have HLEN := Lib.hid hlen
      have HX5 := Lib.hid hx5.2
      have hx16 : X.length ≤ 16777215 := Nat.le_trans hx5.1 (by decide)
      have HX16 := Lib.hid hx16
      have hX500 := hx5.1
      have HT := Lib.hid ht
      have hlt' : (k : Int) < (L.length : Int) := by omega
      clear hX hXL htk hlen hx5 hx16 ht
      go_wp2_with fail
      refine (put_good _ X _ HT.out HX5.out HX16.out).mono ?_
      rintro e w1 ⟨vf, he1, ht1, hb1⟩
      rw [he1.out]
      have hO1 := own8_below hO.out hb1
      have hB1 := below_self hB.out hb1
      have HO1 := Lib.hid hO1
      have HB1 := Lib.hid hB1
      have HT1 := Lib.hid ht1
      have hz1 := hB1.size
      clear he1 ht1 hb1 hO1 hB1 hO hB HT
      go_wp2_with (refine wpList_app (o := ⟨some 25, _, _, _, _, _⟩) rfl _ _ rfl w.heap.size _ (joinN (L.take k)) rfl HO1.out _ (frm X) rfl HT1.out (by have := HLEN.out; rw [frm_length]; omega) hz1 ?_)
      intro v2 w2 ho2 hb2 hz2
      have HO2 : Hid (Own8 w2 w.heap.size v2 (joinN (L.take (k + 1)))) := by unfold Hid; rw [HTK.out, joinN_snoc]; exact ho2
      have HB2 : Hid (Below w.heap.size w w2) := HB1.out.trans hb2
      clear ho2 hb2 hz2 HO1 HB1 HT1
      go_wp2
      go_roundw
      case rel => exact ⟨k + 1, by omega, by go_num, HO2.out, HB2.out⟩
      case measure => simp [intOf]; omega
    · have hlt' : ¬ (k : Int) < (L.length : Int) := by omega
      have HO : Hid (Own8 wr w.heap.size u4 (joinN L)) := by
        unfold Hid
        have := hO.out
        rw [List.take_of_length_le (by omega)] at this
        exact this
      clear hO
      go_wp2
      go_ret2
      exact ⟨u4, rfl, HO.out, hB.out⟩
end Go.Proofs.Ytcieilbnlbielaa
