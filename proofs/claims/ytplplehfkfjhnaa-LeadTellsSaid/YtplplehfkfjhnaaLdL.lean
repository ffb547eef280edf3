/-
  Leads: proposed.
-/
import Derived.Test.YtplplehfkfjhnaaLdK
namespace Go.Proofs.Ytplplehfkfjhnaa
open Go.RowKit
open Bb (quoN thN allB)
set_option linter.unusedSimpArgs false
set_option linter.unusedVariables false
set_option maxRecDepth 100000

/-- A box that holds a lead. -/
def LBox (w : World) (c g : Nat) : Prop := Bk w c 48 [gP g]
def othB (b : At) (a : At) : Bool := !sameA a b
set_option maxHeartbeats 4000000 in
theorem oth_any {w : World} {B g c : Nat} {L : LSt} (h : LdAt w B g L) (ho : LOk L) (hx : LBox w c g) (s : Int) (v : Value) (l : List I3) (hd : IK.Rd w v l) (hk : okL l) (hl : l.length ≤ 1000) :
    Calls Try.prog 48 #[.agg #[.int .i64 s, v], .pointer (some ⟨c, 0, none⟩)] w fun e w' => e = .returned (.bool (othB L.at' (s, l))) ∧ Below w.heap.size w w' := by
  obtain ⟨Bw, vn, vd, vw, vh, h⟩ := h
  obtain ⟨a, ca, ea⟩ := hd.slice
  obtain ⟨M, hM⟩ : ∃ M, l.length = M := ⟨_, rfl⟩
  rw [hM] at ea
  subst ea
  obtain ⟨ad, cd, ed⟩ := h.deps.slice
  obtain ⟨nd, hnd⟩ : ∃ n, L.at'.2.length = n := ⟨_, rfl⟩
  rw [hnd] at ed
  subst ed
  obtain ⟨X, hX⟩ : ∃ X, w.alloc (.cells #[.int .i64 s, .slice a M ca] 36) = X := ⟨_, rfl⟩
  have hB : Below w.heap.size w X := by rw [← hX]; exact (Below.refl _ _).alloc (Nat.le_refl _) _
  have b1 : Bk X w.heap.size 36 [.int .i64 s, .slice a M ca] := by rw [← hX]; exact Bk.new w _ _
  have hV := h.below hB
  have hxX : LBox X c g := hx.below hB
  have HBX := Lib.hid hB
  have hgX := hV.bk.lt
  have hcX := hxX.lt
  have HC : Hid (∀ w' : World, Below X.heap.size X w' → w'.cell? ⟨w.heap.size, 0, none⟩ = some (.int .i64 s) ∧ w'.cell? ⟨w.heap.size, 1, none⟩ = some (.slice a M ca) ∧ w'.cell? ⟨c, 0, none⟩ = some (gP g) ∧ w'.cell? ⟨g, 20, none⟩ = some (.int .i64 L.at'.1) ∧ w'.cell? ⟨g, 21, none⟩ = some (.slice ad nd cd) ∧ Below X.heap.size X w') := Lib.hid fun w' hb =>
    ⟨(b1.below hb).cell 0, (b1.below hb).cell 1, (hxX.below hb).cell 0, (hV.below hb).cell 20, (hV.below hb).cell 21, hb⟩
  have HS : Hid (∀ W : World, Below X.heap.size X W → Calls Try.prog 49 #[.agg #[.int .i64 s, .slice a M ca], .agg #[.int .i64 L.at'.1, .slice ad nd cd]] W fun e w' => e = .returned (.bool (sameA (s, l) L.at')) ∧ Below W.heap.size W w') := Lib.hid fun W hb =>
    asame_any s L.at'.1 _ _ l L.at'.2 W ((hd.below hB).below hb) hk (by omega) (hV.deps.rd.below hb) h.ok ho.dl
  clear hB b1 hV hxX hd hk hl hM hnd h ho hx
  go_enter Try.func48, Try.ntmps48
  go_wp2_with fail
  try rw [hX]
  clear hX
  refine wp_region_held_drew (S := (fun w' => w'.cell? ⟨w.heap.size, 0, none⟩ = some (.int .i64 s) ∧ w'.cell? ⟨w.heap.size, 1, none⟩ = some (.slice a M ca) ∧ w'.cell? ⟨c, 0, none⟩ = some (gP g) ∧ w'.cell? ⟨g, 20, none⟩ = some (.int .i64 L.at'.1) ∧ w'.cell? ⟨g, 21, none⟩ = some (.slice ad nd cd) ∧ Below X.heap.size X w')) (by kernel_rfl) ?_ (fun hHeld => ?_)
  · ((first
  | exact HC.out _ (Below.refl _ _)
  | exact HC.out _ (Below.refl _ _).drew
  | exact HC.out _ hw1
  | (go_split_ands; exact HC.out _ (by assumption))
  | fail))
  refine wpAnyH_take (i := 0) (v := ?_) rfl (by kernel_rfl) (by kernel_rfl) (by kernel_rfl) (fun _ _ _ h => h) (Or.inl ⟨by rfl, ?_⟩) (by assumption) ?_
  rotate_left
  · (intro w hSw; (try dsimp only at hSw); go_simp; try rfl)
  try simp only [Act.put, List.setIfInBounds_toArray, List.set_cons_zero, List.set_cons_succ, List.getElem_toArray, List.getElem_cons_zero, List.getElem_cons_succ]
  refine wpAnyH_take (i := 1) (v := ?_) rfl (by kernel_rfl) (by kernel_rfl) (by kernel_rfl) (fun _ _ _ h => h) (Or.inl ⟨by rfl, ?_⟩) (by assumption) ?_
  rotate_left
  · (intro w hSw; (try dsimp only at hSw); go_simp; try rfl)
  try simp only [Act.put, List.setIfInBounds_toArray, List.set_cons_zero, List.set_cons_succ, List.getElem_toArray, List.getElem_cons_zero, List.getElem_cons_succ]
  refine wpAnyH_take (i := 2) (v := ?_) rfl (by kernel_rfl) (by kernel_rfl) (by kernel_rfl) (fun _ _ _ h => h) (Or.inl ⟨by rfl, ?_⟩) (by assumption) ?_
  rotate_left
  · (intro w hSw; (try dsimp only at hSw); go_simp; try rfl)
  try simp only [Act.put, List.setIfInBounds_toArray, List.set_cons_zero, List.set_cons_succ, List.getElem_toArray, List.getElem_cons_zero, List.getElem_cons_succ]
  refine wpAnyH_take (i := 3) (v := ?_) rfl (by kernel_rfl) (by kernel_rfl) (by kernel_rfl) (fun _ _ _ h => h) (Or.inl ⟨by rfl, ?_⟩) (by assumption) ?_
  rotate_left
  · (intro w hSw; (try dsimp only at hSw); go_simp; try rfl)
  try simp only [Act.put, List.setIfInBounds_toArray, List.set_cons_zero, List.set_cons_succ, List.getElem_toArray, List.getElem_cons_zero, List.getElem_cons_succ]
  refine wpAnyH_take (i := 4) (v := ?_) rfl (by kernel_rfl) (by kernel_rfl) (by kernel_rfl) (fun _ _ _ h => h) (Or.inl ⟨by rfl, ?_⟩) (by assumption) ?_
  rotate_left
  · (intro w hSw; (try dsimp only at hSw); go_simp; try rfl)
  try simp only [Act.put, List.setIfInBounds_toArray, List.set_cons_zero, List.set_cons_succ, List.getElem_toArray, List.getElem_cons_zero, List.getElem_cons_succ]
  refine wpAnyH_ready (rs := [5]) (by kernel_rfl) (by simp) ?_
  refine (AllReadyH.cons rfl (fun K hK => ?_) AllReadyH.nil)
  go_simp
  (go_at_call 49; go_split_ands; refine (HS.out _ (by assumption)).mono ?_; rintro e w1 ⟨rfl, hb1⟩; have hw1 : Below X.heap.size X w1 := below_self (by assumption) hb1)
  refine hK.out _ _ ?_ (fun hHeld => ?_)
  · ((first
  | exact HC.out _ (Below.refl _ _)
  | exact HC.out _ (Below.refl _ _).drew
  | exact HC.out _ hw1
  | (go_split_ands; exact HC.out _ (by assumption))
  | fail))
  clear hK K
  try simp only [Act.put, List.setIfInBounds_toArray, List.set_cons_zero, List.set_cons_succ, List.getElem_toArray, List.getElem_cons_zero, List.getElem_cons_succ]
  refine wpAnyH_take (i := 6) (v := ?_) rfl (by kernel_rfl) (by kernel_rfl) (by kernel_rfl) (fun _ _ _ h => h) (Or.inl ⟨by rfl, ?_⟩) (by assumption) ?_
  rotate_left
  · (intro w hSw; (try dsimp only at hSw); go_simp; try rfl)
  try simp only [Act.put, List.setIfInBounds_toArray, List.set_cons_zero, List.set_cons_succ, List.getElem_toArray, List.getElem_cons_zero, List.getElem_cons_succ]
  refine wpAnyH_take (i := 7) (v := ?_) rfl (by kernel_rfl) (by kernel_rfl) (by kernel_rfl) (fun _ _ _ h => h) (Or.inl ⟨by rfl, ?_⟩) (by assumption) ?_
  rotate_left
  · (intro w hSw; (try dsimp only at hSw); go_simp; try rfl)
  try simp only [Act.put, List.setIfInBounds_toArray, List.set_cons_zero, List.set_cons_succ, List.getElem_toArray, List.getElem_cons_zero, List.getElem_cons_succ]
  refine wpAnyH_done (by kernel_rfl) ?_ _
  have HW := Lib.hid (HBX.out.trans (hw1.mono HBX.out.size))
  clear hw1 hb1 HC HS
  go_wp2
  go_ret
  exact ⟨rfl, HW.out⟩
/-- Attributes that differ, one by one. -/
structure OthAt (w : World) (B g c : Nat) (L : LSt) : Prop where
  ld : LdAt w B g L
  ok : LOk L
  bx : LBox w c g
theorem OthAt.below {w w' : World} {B g c : Nat} {L : LSt} (h : OthAt w B g c L) (hb : Below w.heap.size w w') : OthAt w' B g c L := ⟨h.ld.below hb, h.ok, h.bx.below hb⟩
def IxP (b : Bool) (w : World) (e : Ending) (w' : World) : Prop := ∃ r : Int, Hid (e = .returned (.int .i64 r)) ∧ decide (0 ≤ r) = b ∧ Below w.heap.size w w'
set_option maxHeartbeats 4000000 in
theorem ixoth_any {w : World} {B g c : Nat} {L : LSt} (h : OthAt w B g c L) (v : Value) (rs : List (Cls 2)) (l : List At) (hr : RowIs AtK atS w v rs l) (hl : l.length ≤ 100) (hd : ∀ a ∈ l, a.2.length ≤ 1000) :
    Calls Try.prog 61 #[v, .func (.func 48) #[] #[.pointer (some ⟨c, 0, none⟩)]] w (IxP (l.any (othB L.at')) w) := by
  obtain ⟨a, k0, e⟩ := hr.rd.slice
  rw [hr.len] at e
  subst e
  obtain ⟨N, hN⟩ : ∃ N, l.length = N := ⟨_, rfl⟩
  rw [hN] at hr hl ⊢
  have HN := Lib.hid hN
  have HR := Lib.hid hr
  have HG := Lib.hid h
  have HD := Lib.hid hd
  clear h hr hN hd
  go_enter Try.func61, Try.ntmps61
  go_wp2_with fail
  go_loopw [8] (fun i wr => ∃ k : Nat, k ≤ N ∧ i = .int .i64 k ∧ Hid (Below w.heap.size w wr) ∧ Hid ((l.take k).any (othB L.at') = false)) (fun i _ => N - (intOf i).toNat)
  case atStart => exact ⟨0, Nat.zero_le _, rfl, Lib.hid (Below.refl _ _), Lib.hid (by simp)⟩
  case round =>
    obtain ⟨k, hk, rfl, hB, hF⟩ := hrel
    by_cases hlt : k < N
    · have hlt' : (k : Int) < (N : Int) := by omega
      obtain ⟨-, hkl, g2, off2, v2, hda, hg2, q1, q2, hrd, hok⟩ := atCell (HR.out.on hB.out) k hlt
      subst hda
      have HO := Lib.hid (fun (hx : l[k].2.length ≤ 1000) => oth_any (HG.out.below hB.out).ld HG.out.ok (HG.out.below hB.out).bx l[k].1 v2 l[k].2 hrd hok hx)
      have HO := Lib.hid (HO (HD.out _ (List.getElem_mem hkl)))
      have HT : Hid ((l.take (k + 1)).any (othB L.at') = ((l.take k).any (othB L.at') || othB L.at' l[k])) := Lib.hid (by rw [List.take_succ_eq_append_getElem hkl, List.any_append]; simp)
      have HA : Hid (othB L.at' l[k] = true → l.any (othB L.at') = true) := Lib.hid (fun q => List.any_eq_true.2 ⟨_, List.getElem_mem hkl, q⟩)
      obtain ⟨va, vk, ev⟩ := hrd.slice
      obtain ⟨⟨s, dl⟩, hX⟩ : ∃ x, l[k] = x := ⟨_, rfl⟩
      rw [hX] at q1 HO HT HA ev
      obtain ⟨M, hM⟩ : ∃ M, dl.length = M := ⟨_, rfl⟩
      simp only [hM] at ev
      subst ev
      obtain ⟨R, hRR⟩ : ∃ R, othB L.at' (s, dl) = R := ⟨_, rfl⟩
      rw [hRR] at HO HT HA
      have hg3 := hg2
      clear hX hM hRR hrd hok
      cases R with
      | true =>
        go_wp2_with fail
        refine HO.out.mono ?_
        rintro e w1 ⟨rfl, hb⟩
        have HB := Lib.hid (below_self hB.out hb)
        clear hb hB
        go_wp2
        go_ret
        exact ⟨(k : Int), Lib.hid rfl, by rw [HA.out trivial]; exact decide_eq_true (by omega), HB.out⟩
      | false =>
        go_wp2_with fail
        refine HO.out.mono ?_
        rintro e w1 ⟨rfl, hb⟩
        have HB := Lib.hid (below_self hB.out hb)
        have HF2 : Hid ((l.take (k + 1)).any (othB L.at') = false) := Lib.hid (by rw [HT.out, hF.out]; rfl)
        clear hb hB
        go_wp2
        go_roundw
        case rel => exact ⟨k + 1, by omega, by go_num, HB, HF2⟩
        case measure => simp [intOf]; omega
    · have e : k = N := by omega
      subst e
      have hF2 := hF.out
      rw [List.take_of_length_le (by rw [HN.out]; exact Nat.le_refl _)] at hF2
      have HF2 := Lib.hid hF2
      clear hF hF2
      go_wp2
      go_ret
      exact ⟨-1, Lib.hid rfl, by rw [HF2.out]; rfl, hB.out⟩
theorem ctoth_any {w : World} {B g c : Nat} {L : LSt} (h : OthAt w B g c L) (v : Value) (rs : List (Cls 2)) (l : List At) (hr : RowIs AtK atS w v rs l) (hl : l.length ≤ 100) (hd : ∀ a ∈ l, a.2.length ≤ 1000) :
    Calls Try.prog 50 #[v, .func (.func 48) #[] #[.pointer (some ⟨c, 0, none⟩)]] w fun e w' => e = .returned (.bool (l.any (othB L.at'))) ∧ Below w.heap.size w w' := by
  have HC := Lib.hid (ixoth_any h v rs l hr hl hd)
  obtain ⟨a, k0, e⟩ := hr.rd.slice
  obtain ⟨N, hN⟩ : ∃ N, rs.length = N := ⟨_, rfl⟩
  rw [hN] at e
  subst e
  obtain ⟨R, hR⟩ : ∃ R, l.any (othB L.at') = R := ⟨_, rfl⟩
  rw [hR] at HC ⊢
  clear h hr hR hN hd
  go_enter Try.func50, Try.ntmps50
  go_wp2_with fail
  refine HC.out.mono ?_
  rintro e w1 ⟨r, he, hr, hb⟩
  have he := he.out
  subst he
  have HB := Lib.hid hb
  have HRr := Lib.hid hr
  clear hb hr
  go_wp2
  go_ret
  exact ⟨ret_bool HRr.out, HB.out⟩
end Go.Proofs.Ytplplehfkfjhnaa
