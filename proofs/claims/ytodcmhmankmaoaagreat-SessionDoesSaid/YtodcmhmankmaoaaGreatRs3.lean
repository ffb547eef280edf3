/-
 The document's machine: which commands and sessions may be; lists that are too long.
-/
import Derived.Test.YtodcmhmankmaoaaGreatRs1
namespace Go.Proofs.YtodcmhmankmaoaaGreat
open Go.RowKit Go.Sort
set_option linter.unusedSimpArgs false
set_option linter.unusedVariables false
set_option maxRecDepth 100000

theorem rctl_any (cl sq op : Int) (pa va : ByteArray) (ver ca cb : Int) (w : World) :
  Calls Tryz.prog 50 #[.agg #[.int .i64 cl, .int .i64 sq, .int .i64 op, .string pa, .string va, .int .i64 ver, .int .i64 ca, .int .i64 cb]] w fun e w' => e = .returned (.bool (Tc.ctl op)) ∧ Below w.heap.size w w' := by
 by_cases h7 : op = 7
 ·subst h7
  go_enter Tryz.func50, Tryz.ntmps50
  go_wp2
  go_ret
  exact ⟨rfl, (Below.refl _ _).alloc (Nat.le_refl _) _⟩
 ·by_cases h8 : op = 8
  ·subst h8
   go_enter Tryz.func50, Tryz.ntmps50
   go_wp2
   go_ret
   exact ⟨rfl, (Below.refl _ _).alloc (Nat.le_refl _) _⟩
  ·by_cases h9 : op = 9
   ·subst h9
    go_enter Tryz.func50, Tryz.ntmps50
    go_wp2
    go_ret
    exact ⟨rfl, (Below.refl _ _).alloc (Nat.le_refl _) _⟩
   ·have e : Tc.ctl op = false := by unfold Tc.ctl; simp [h7, h8, h9]
    rw [e]
    have z7 : (op == 7) = false := by simpa using h7
    have z8 : (op == 8) = false := by simpa using h8
    have z9 : (op == 9) = false := by simpa using h9
    clear h7 h8 h9 e
    go_enter Tryz.func50, Tryz.ntmps50
    go_wp2
    go_ret
    exact ⟨rfl, (Below.refl _ _).alloc (Nat.le_refl _) _⟩
theorem rvalid9_any (c q op : Int) (p v : ByteArray) (ver a b : Int) (w : World) : Calls Tryz.prog 23 #[cmdV c q op p v ver a b] w fun e w' => e = .returned (.bool (valS c q)) ∧ Below w.heap.size w w' := by
 obtain ⟨R, hR⟩ : ∃ R, valS c q = R := ⟨_, rfl⟩
 rw [hR]
 have HR := Lib.hid hR
 clear hR
 by_cases h1 : 0 ≤ c
 ·by_cases h2 : c ≤ 1099511627776
  ·by_cases h3 : 1 ≤ q
   ·by_cases h4 : q ≤ 1099511627776
    ·have e : R = true := by rw [← HR.out]; simp [valS, h1, h2, h3, h4]
     subst e
     go_enter Tryz.func23, Tryz.ntmps23
     go_wp2
     go_ret
     exact ⟨rfl, (Below.refl _ _).alloc (Nat.le_refl _) _⟩
    ·have e : R = false := by rw [← HR.out]; simp [valS, h4]
     subst e
     go_enter Tryz.func23, Tryz.ntmps23
     go_wp2
     go_ret
     exact ⟨rfl, (Below.refl _ _).alloc (Nat.le_refl _) _⟩
   ·have e : R = false := by rw [← HR.out]; simp [valS, h3]
    subst e
    go_enter Tryz.func23, Tryz.ntmps23
    go_wp2
    go_ret
    exact ⟨rfl, (Below.refl _ _).alloc (Nat.le_refl _) _⟩
  ·have e : R = false := by rw [← HR.out]; simp [valS, h2]
   subst e
   go_enter Tryz.func23, Tryz.ntmps23
   go_wp2
   go_ret
   exact ⟨rfl, (Below.refl _ _).alloc (Nat.le_refl _) _⟩
 ·have e : R = false := by rw [← HR.out]; simp [valS, h1]
  subst e
  go_enter Tryz.func23, Tryz.ntmps23
  go_wp2
  go_ret
  exact ⟨rfl, (Below.refl _ _).alloc (Nat.le_refl _) _⟩
theorem long_any (a : Option Addr) (n c : Nat) (ns : List ByteArray) (w : World) (h : SRd w a ns) (hn : n = ns.length) :
  Calls Tryz.prog 17 #[.slice a n c] w fun e w' => (e = .returned (.bool false) ∧ ns.length ≤ 60 ∧ w = w') ∨ (e = .returned (.bool true) ∧ w = w') := by
 have HS := Lib.hid h
 have HN := Lib.hid hn
 have hn1 : (n : Int) ≤ 9223372036854775807 := by have := h.1; omega
 clear h hn
 go_enter Tryz.func17, Tryz.ntmps17
 go_wp2_with fail
 go_loop [3] (fun i => ∃ k : Nat, k ≤ n ∧ k ≤ 60 ∧ i = .int .i64 k) (fun i => 61 - (intOf i).toNat)
 case atStart => exact ⟨0, by omega, by omega, rfl⟩
 case round =>
  obtain ⟨k, hk, hk2, rfl⟩ := hrel
  by_cases hlt : k < n
  ·have hlt' : (k : Int) < (n : Int) := by omega
   by_cases h60 : k < 60
   ·have h60' : (k : Int) < 60 := by omega
    rcases HS.out.2 with h0 | ⟨g, off, rfl, hg, hc⟩
    ·exfalso
     have := HN.out
     rw [h0] at this
     simp at this
     omega
    have c0 := hc k (by have := HN.out; omega)
    obtain ⟨z, hz⟩ : ∃ z, ns.getD k ByteArray.empty = z := ⟨_, rfl⟩
    rw [hz] at c0
    clear hc hz hg
    by_cases y1 : (300 : Int) < z.size
    ·go_wp2
     go_ret
     exact .inr ⟨rfl, rfl⟩
    ·go_wp2
     go_round
     case rel => exact ⟨k + 1, by omega, by omega, by go_num⟩
     case measure => simp [intOf]; omega
   ·have h60' : ¬ (k : Int) < 60 := by omega
    by_cases g2 : 60 < n
    ·have g1 : (60 : Int) < (n : Int) := by omega
     go_wp2
     go_ret
     exact .inr ⟨rfl, rfl⟩
    ·have g1 : ¬ (60 : Int) < (n : Int) := by omega
     have HL : Hid (ns.length ≤ 60) := Lib.hid (by have := HN.out; omega)
     go_wp2
     go_ret
     exact .inl ⟨rfl, HL.out, rfl⟩
  ·obtain rfl : n = k := by omega
   have hlt' : ¬ (n : Int) < (n : Int) := by omega
   have g1 : ¬ (60 : Int) < (n : Int) := by omega
   have g2 : ¬ 60 < n := by omega
   have HL : Hid (ns.length ≤ 60) := Lib.hid (by have := HN.out; omega)
   go_wp2
   go_ret
   exact .inl ⟨rfl, HL.out, rfl⟩
/-- May a session stand there? -/
def okS (s : List S3) (j : Nat) : Prop := valS (s.getD j zS).1 (s.getD j zS).2.1 = true ∧ (j = 0 ∨ (s.getD (j - 1) zS).1 < (s.getD j zS).1)
theorem okS_right {s : List S3} (h : ∀ j, j < s.length → okS s j) : RisesS s ∧ ∀ e ∈ s, valS e.1 e.2.1 = true := by
 have gd : ∀ j (hj : j < s.length), s.getD j zS = s[j] := fun j hj => by simp [List.getD, hj]
 refine ⟨?_, fun e he => ?_⟩
 ·unfold RisesS
  rw [List.pairwise_iff_getElem]
  intro i j hi hj hij
  obtain ⟨d, rfl⟩ : ∃ d, j = i + 1 + d := ⟨j - i - 1, by omega⟩
  induction d with
  | zero =>
   have q := (h (i + 1) hj).2.resolve_left (by omega)
   rw [Nat.add_sub_cancel, gd i hi, gd (i + 1) hj] at q
   exact q
  | succ d ih =>
   have q := (h (i + 1 + (d + 1)) hj).2.resolve_left (by omega)
   rw [show i + 1 + (d + 1) - 1 = i + 1 + d by omega, gd (i + 1 + d) (by omega), gd _ hj] at q
   exact Int.lt_trans (ih (by omega) (by omega)) q
 ·obtain ⟨j, hj, rfl⟩ := List.getElem_of_mem he
  have q := (h j hj).1
  rwa [gd j hj] at q
set_option maxHeartbeats 4000000 in
theorem rright9_any (a : Option Addr) (n c0 : Nat) (xs : List SG) (s : List S3) (X w : World) (hR : SF.Rd w (.slice a n c0) xs) (hM : MatchG X w xs s) (hn : n ≤ 10000) :
  Calls Tryz.prog 19 #[.slice a n c0] w fun e w' => (e = .returned (.bool true) ∧ (∀ j, j < s.length → okS s j) ∧ Below w.heap.size w w') ∨ (e = .returned (.bool false) ∧ (¬ ∀ j, j < s.length → okS s j) ∧ Below w.heap.size w w') := by
 have hln : n = s.length := by
  obtain ⟨a', c', e', _⟩ := hR
  simp only [Value.slice.injEq] at e'
  rw [e'.2.1]; exact hM.len
 have HR := Lib.hid hR
 have HM := Lib.hid hM
 have HN := Lib.hid hln
 clear hR hM hln
 go_enter Tryz.func19, Tryz.ntmps19
 go_wp2_with fail
 go_loopw [3] (fun i wr => ∃ k : Nat, k ≤ n ∧ i = .int .i64 k ∧ Hid (Below w.heap.size w wr) ∧ Hid (∀ i, i < k → okS s i)) (fun i _ => n - (intOf i).toNat)
 case atStart => exact ⟨0, Nat.zero_le _, rfl, Lib.hid (Below.refl _ _), Lib.hid (fun i hi => absurd hi (Nat.not_lt_zero _))⟩
 case round =>
  obtain ⟨k, hk, rfl, hB, hG⟩ := hrel
  by_cases hlt : k < n
  ·have hlt' : (k : Int) < (n : Int) := by omega
   have hlt2 : decide (k < n) = true := decide_eq_true hlt
   have HKL : Hid (k < s.length) := Lib.hid (by have := HN.out; omega)
   obtain ⟨-, g, off, ha, hg, -, t0, t1, -, -, -, -⟩ := sgCell (HR.out.below hB.out) k hlt
   have hx := HM.out.at' k HKL.out
   obtain ⟨⟨c, q, rr⟩, hE⟩ : ∃ E, s.getD k zS = E := ⟨_, rfl⟩
   rw [hx.cl, hE] at t0
   rw [hx.sq, hE] at t1
   simp only at t0 t1
   obtain ⟨vl, hvl⟩ : ∃ b, valS c q = b := ⟨_, rfl⟩
   have HVl : Hid (∀ wq, Calls Tryz.prog 23 #[cmdV c q 0 { data := #[] } { data := #[] } 0 0 0] wq fun e w' => e = .returned (.bool vl) ∧ Below wq.heap.size wq w') := Lib.hid fun wq => by
    have := rvalid9_any c q 0 { data := #[] } { data := #[] } 0 0 0 wq
    rwa [hvl] at this
   subst ha
   by_cases k0 : k = 0
   ·subst k0
    simp only [Nat.zero_mul, Nat.add_zero] at t0 t1
    have HKP : Hid (∀ w', Below wr.heap.size wr w' → (w'.cell? ⟨g, off, none⟩ = some (.int .i64 c) ∧ w'.cell? ⟨g, off + 1, none⟩ = some (.int .i64 q) ∧ Below wr.heap.size wr w')) := Lib.hid fun w' hq => ⟨(hq.cell (p := ⟨g, off, none⟩) hg).trans t0, (hq.cell (p := ⟨g, off + 1, none⟩) hg).trans t1, hq⟩
    cases vl with
    | false =>
     have HNo : Hid (¬ okS s 0) := Lib.hid fun h => by
      have := h.1
      rw [hE] at this
      simp only at this
      rw [hvl] at this
      cases this
     clear hx hE hvl t0 t1 hg
     go_wp2_with fail
     refine wp_region_held_drew (S := (fun w' => w'.cell? ⟨g, off, none⟩ = some (.int .i64 c) ∧ w'.cell? ⟨g, off + 1, none⟩ = some (.int .i64 q) ∧ Below wr.heap.size wr w')) (by kernel_rfl) ?_ (fun hHeld => ?_)
     ·((first
      | exact HKP.out _ (Below.refl _ _)
      | exact HKP.out _ (Below.refl _ _).drew
      | exact HKP.out _ (below_self (Below.refl _ _).drew hbw)
      | fail))
     (refine tkA 0 (v := ?_) ?_ ?_; rotate_left; focus (intro w hSw; (try dsimp only at hSw); go_simp; try rfl)); try simp only [Act.put, gA1, gA2, gA3, gA4, gA5, gA6]
     (refine tkA 1 (v := ?_) ?_ ?_; rotate_left; focus (intro w hSw; (try dsimp only at hSw); go_simp; try rfl)); try simp only [Act.put, gA1, gA2, gA3, gA4, gA5, gA6]
     (refine tkA 2 (v := ?_) ?_ ?_; rotate_left; focus (intro w hSw; (try dsimp only at hSw); go_simp; try rfl)); try simp only [Act.put, gA1, gA2, gA3, gA4, gA5, gA6]
     (refine tkA 3 (v := ?_) ?_ ?_; rotate_left; focus (intro w hSw; (try dsimp only at hSw); go_simp; try rfl)); try simp only [Act.put, gA1, gA2, gA3, gA4, gA5, gA6]
     (refine tkA 4 (v := ?_) ?_ ?_; rotate_left; focus (intro w hSw; (try dsimp only at hSw); go_simp; try rfl)); try simp only [Act.put, gA1, gA2, gA3, gA4, gA5, gA6]
     (refine tkA 5 (v := ?_) ?_ ?_; rotate_left; focus (intro w hSw; (try dsimp only at hSw); go_simp; try rfl)); try simp only [Act.put, gA1, gA2, gA3, gA4, gA5, gA6]
     (refine tkA 6 (v := ?_) ?_ ?_; rotate_left; focus (intro w hSw; (try dsimp only at hSw); go_simp; try rfl)); try simp only [Act.put, gA1, gA2, gA3, gA4, gA5, gA6]
     (refine tkA 7 (v := ?_) ?_ ?_; rotate_left; focus (intro w hSw; (try dsimp only at hSw); go_simp; try rfl)); try simp only [Act.put, gA1, gA2, gA3, gA4, gA5, gA6]
     (refine tkA 8 (v := ?_) ?_ ?_; rotate_left; focus (intro w hSw; (try dsimp only at hSw); go_simp; try rfl)); try simp only [Act.put, gA1, gA2, gA3, gA4, gA5, gA6]
     (refine tkA 9 (v := ?_) ?_ ?_; rotate_left; focus (intro w hSw; (try dsimp only at hSw); go_simp; try rfl)); try simp only [Act.put, gA1, gA2, gA3, gA4, gA5, gA6]
     (refine tkA 10 (v := ?_) ?_ ?_; rotate_left; focus (intro w hSw; (try dsimp only at hSw); go_simp; try rfl)); try simp only [Act.put, gA1, gA2, gA3, gA4, gA5, gA6]
     refine wpAnyH_ready (rs := [11]) (by kernel_rfl) (by simp) ?_
     refine (AllReadyH.cons rfl (fun K hK => ?_) AllReadyH.nil)
     go_simp
     (go_at_call 23; refine (HVl.out _).mono ?_; rintro e w1 ⟨rfl, hbw⟩)
     refine hK.out _ _ ?_ (fun hHeld => ?_)
     ·((first
      | exact HKP.out _ (Below.refl _ _)
      | exact HKP.out _ (Below.refl _ _).drew
      | exact HKP.out _ (below_self (Below.refl _ _).drew hbw)
      | fail))
     clear hK K
     try simp only [Act.put, gA1, gA2, gA3, gA4, gA5, gA6]
     (refine tkA 12 (v := ?_) ?_ ?_; rotate_left; focus (intro w hSw; (try dsimp only at hSw); go_simp; try rfl)); try simp only [Act.put, gA1, gA2, gA3, gA4, gA5, gA6]
     (refine tkA 13 (v := ?_) ?_ ?_; rotate_left; focus (intro w hSw; (try dsimp only at hSw); go_simp; try rfl)); try simp only [Act.put, gA1, gA2, gA3, gA4, gA5, gA6]
     refine utA 14 ?_; try simp only [Act.put, gA1, gA2, gA3, gA4, gA5, gA6]
     refine utA 15 ?_; try simp only [Act.put, gA1, gA2, gA3, gA4, gA5, gA6]
     refine utA 16 ?_; try simp only [Act.put, gA1, gA2, gA3, gA4, gA5, gA6]
     refine utA 17 ?_; try simp only [Act.put, gA1, gA2, gA3, gA4, gA5, gA6]
     refine utA 18 ?_; try simp only [Act.put, gA1, gA2, gA3, gA4, gA5, gA6]
     refine utA 19 ?_; try simp only [Act.put, gA1, gA2, gA3, gA4, gA5, gA6]
     refine utA 20 ?_; try simp only [Act.put, gA1, gA2, gA3, gA4, gA5, gA6]
     refine utA 21 ?_; try simp only [Act.put, gA1, gA2, gA3, gA4, gA5, gA6]
     refine utA 22 ?_; try simp only [Act.put, gA1, gA2, gA3, gA4, gA5, gA6]
     refine utA 23 ?_; try simp only [Act.put, gA1, gA2, gA3, gA4, gA5, gA6]
     refine utA 24 ?_; try simp only [Act.put, gA1, gA2, gA3, gA4, gA5, gA6]
     refine utA 25 ?_; try simp only [Act.put, gA1, gA2, gA3, gA4, gA5, gA6]
     refine utA 26 ?_; try simp only [Act.put, gA1, gA2, gA3, gA4, gA5, gA6]
     refine utA 27 ?_; try simp only [Act.put, gA1, gA2, gA3, gA4, gA5, gA6]
     refine utA 28 ?_; try simp only [Act.put, gA1, gA2, gA3, gA4, gA5, gA6]
     refine utA 29 ?_; try simp only [Act.put, gA1, gA2, gA3, gA4, gA5, gA6]
     (refine tkA 30 (v := ?_) ?_ ?_; rotate_left; focus (intro w hSw; (try dsimp only at hSw); go_simp; try rfl)); try simp only [Act.put, gA1, gA2, gA3, gA4, gA5, gA6]
     refine wpAnyH_done (by kernel_rfl) ?_ _
     have HB1 := Lib.hid (hB.out.trans ((below_self (Below.refl _ _).drew hbw).mono hB.out.size))
     clear hbw HKP hB hG
     go_wp2
     go_ret
     exact .inr ⟨rfl, (fun q => HNo.out (q _ HKL.out)), HB1.out⟩
    | true =>
     have HOk : Hid (okS s 0) := Lib.hid ⟨by rw [hE]; exact hvl, .inl rfl⟩
     clear hx hE hvl t0 t1 hg
     go_wp2_with fail
     refine wp_region_held_drew (S := (fun w' => w'.cell? ⟨g, off, none⟩ = some (.int .i64 c) ∧ w'.cell? ⟨g, off + 1, none⟩ = some (.int .i64 q) ∧ Below wr.heap.size wr w')) (by kernel_rfl) ?_ (fun hHeld => ?_)
     ·((first
      | exact HKP.out _ (Below.refl _ _)
      | exact HKP.out _ (Below.refl _ _).drew
      | exact HKP.out _ (below_self (Below.refl _ _).drew hbw)
      | fail))
     (refine tkA 0 (v := ?_) ?_ ?_; rotate_left; focus (intro w hSw; (try dsimp only at hSw); go_simp; try rfl)); try simp only [Act.put, gA1, gA2, gA3, gA4, gA5, gA6]
     (refine tkA 1 (v := ?_) ?_ ?_; rotate_left; focus (intro w hSw; (try dsimp only at hSw); go_simp; try rfl)); try simp only [Act.put, gA1, gA2, gA3, gA4, gA5, gA6]
     (refine tkA 2 (v := ?_) ?_ ?_; rotate_left; focus (intro w hSw; (try dsimp only at hSw); go_simp; try rfl)); try simp only [Act.put, gA1, gA2, gA3, gA4, gA5, gA6]
     (refine tkA 3 (v := ?_) ?_ ?_; rotate_left; focus (intro w hSw; (try dsimp only at hSw); go_simp; try rfl)); try simp only [Act.put, gA1, gA2, gA3, gA4, gA5, gA6]
     (refine tkA 4 (v := ?_) ?_ ?_; rotate_left; focus (intro w hSw; (try dsimp only at hSw); go_simp; try rfl)); try simp only [Act.put, gA1, gA2, gA3, gA4, gA5, gA6]
     (refine tkA 5 (v := ?_) ?_ ?_; rotate_left; focus (intro w hSw; (try dsimp only at hSw); go_simp; try rfl)); try simp only [Act.put, gA1, gA2, gA3, gA4, gA5, gA6]
     (refine tkA 6 (v := ?_) ?_ ?_; rotate_left; focus (intro w hSw; (try dsimp only at hSw); go_simp; try rfl)); try simp only [Act.put, gA1, gA2, gA3, gA4, gA5, gA6]
     (refine tkA 7 (v := ?_) ?_ ?_; rotate_left; focus (intro w hSw; (try dsimp only at hSw); go_simp; try rfl)); try simp only [Act.put, gA1, gA2, gA3, gA4, gA5, gA6]
     (refine tkA 8 (v := ?_) ?_ ?_; rotate_left; focus (intro w hSw; (try dsimp only at hSw); go_simp; try rfl)); try simp only [Act.put, gA1, gA2, gA3, gA4, gA5, gA6]
     (refine tkA 9 (v := ?_) ?_ ?_; rotate_left; focus (intro w hSw; (try dsimp only at hSw); go_simp; try rfl)); try simp only [Act.put, gA1, gA2, gA3, gA4, gA5, gA6]
     (refine tkA 10 (v := ?_) ?_ ?_; rotate_left; focus (intro w hSw; (try dsimp only at hSw); go_simp; try rfl)); try simp only [Act.put, gA1, gA2, gA3, gA4, gA5, gA6]
     refine wpAnyH_ready (rs := [11]) (by kernel_rfl) (by simp) ?_
     refine (AllReadyH.cons rfl (fun K hK => ?_) AllReadyH.nil)
     go_simp
     (go_at_call 23; refine (HVl.out _).mono ?_; rintro e w1 ⟨rfl, hbw⟩)
     refine hK.out _ _ ?_ (fun hHeld => ?_)
     ·((first
      | exact HKP.out _ (Below.refl _ _)
      | exact HKP.out _ (Below.refl _ _).drew
      | exact HKP.out _ (below_self (Below.refl _ _).drew hbw)
      | fail))
     clear hK K
     try simp only [Act.put, gA1, gA2, gA3, gA4, gA5, gA6]
     (refine tkA 12 (v := ?_) ?_ ?_; rotate_left; focus (intro w hSw; (try dsimp only at hSw); go_simp; try rfl)); try simp only [Act.put, gA1, gA2, gA3, gA4, gA5, gA6]
     (refine tkA 13 (v := ?_) ?_ ?_; rotate_left; focus (intro w hSw; (try dsimp only at hSw); go_simp; try rfl)); try simp only [Act.put, gA1, gA2, gA3, gA4, gA5, gA6]
     (refine tkA 14 (v := ?_) ?_ ?_; rotate_left; focus (intro w hSw; (try dsimp only at hSw); go_simp; try rfl)); try simp only [Act.put, gA1, gA2, gA3, gA4, gA5, gA6]
     (refine tkA 15 (v := ?_) ?_ ?_; rotate_left; focus (intro w hSw; (try dsimp only at hSw); go_simp; try rfl)); try simp only [Act.put, gA1, gA2, gA3, gA4, gA5, gA6]
     (refine tkA 16 (v := ?_) ?_ ?_; rotate_left; focus (intro w hSw; (try dsimp only at hSw); go_simp; try rfl)); try simp only [Act.put, gA1, gA2, gA3, gA4, gA5, gA6]
     refine utA 17 ?_; try simp only [Act.put, gA1, gA2, gA3, gA4, gA5, gA6]
     refine utA 18 ?_; try simp only [Act.put, gA1, gA2, gA3, gA4, gA5, gA6]
     refine utA 19 ?_; try simp only [Act.put, gA1, gA2, gA3, gA4, gA5, gA6]
     refine utA 20 ?_; try simp only [Act.put, gA1, gA2, gA3, gA4, gA5, gA6]
     refine utA 21 ?_; try simp only [Act.put, gA1, gA2, gA3, gA4, gA5, gA6]
     refine utA 22 ?_; try simp only [Act.put, gA1, gA2, gA3, gA4, gA5, gA6]
     refine utA 23 ?_; try simp only [Act.put, gA1, gA2, gA3, gA4, gA5, gA6]
     refine utA 24 ?_; try simp only [Act.put, gA1, gA2, gA3, gA4, gA5, gA6]
     refine utA 25 ?_; try simp only [Act.put, gA1, gA2, gA3, gA4, gA5, gA6]
     refine utA 26 ?_; try simp only [Act.put, gA1, gA2, gA3, gA4, gA5, gA6]
     refine utA 27 ?_; try simp only [Act.put, gA1, gA2, gA3, gA4, gA5, gA6]
     refine utA 28 ?_; try simp only [Act.put, gA1, gA2, gA3, gA4, gA5, gA6]
     (refine tkA 29 (v := ?_) ?_ ?_; rotate_left; focus (intro w hSw; (try dsimp only at hSw); go_simp; try rfl)); try simp only [Act.put, gA1, gA2, gA3, gA4, gA5, gA6]
     (refine tkA 30 (v := ?_) ?_ ?_; rotate_left; focus (intro w hSw; (try dsimp only at hSw); go_simp; try rfl)); try simp only [Act.put, gA1, gA2, gA3, gA4, gA5, gA6]
     refine wpAnyH_done (by kernel_rfl) ?_ _
     have HB1 := Lib.hid (hB.out.trans ((below_self (Below.refl _ _).drew hbw).mono hB.out.size))
     have HOk2 : Hid (∀ i, i < 0 + 1 → okS s i) := Lib.hid (fun i hi => by
      by_cases ei : i = 0
      ·rw [ei]; exact HOk.out
      ·exact hG.out i (by omega))
     clear hbw HKP hB hG
     go_wp2
     go_roundw
     case rel => exact ⟨0 + 1, by omega, by go_num, HB1, HOk2⟩
     case measure => simp [intOf]; omega
   ·obtain ⟨j, hkj⟩ : ∃ j, k = j + 1 := ⟨k - 1, by omega⟩
    obtain ⟨-, g9, off9, ha9, -, -, s0, -⟩ := sgCell (HR.out.below hB.out) j (by omega)
    simp only [Option.some.injEq, Addr.mk.injEq, and_true] at ha9
    obtain ⟨rfl, rfl⟩ := ha9
    have hxj := HM.out.at' j (by have := HKL.out; omega)
    obtain ⟨pc, hpc⟩ : ∃ E, (s.getD j zS).1 = E := ⟨_, rfl⟩
    rw [hxj.cl, hpc] at s0
    have HKP : Hid (∀ w', Below wr.heap.size wr w' → (w'.cell? ⟨g, off + k * 6, none⟩ = some (.int .i64 c) ∧ w'.cell? ⟨g, off + k * 6 + 1, none⟩ = some (.int .i64 q) ∧ w'.cell? ⟨g, off + j * 6, none⟩ = some (.int .i64 pc) ∧ Below wr.heap.size wr w')) := Lib.hid fun w' hq => ⟨(hq.cell (p := ⟨g, off + k * 6, none⟩) hg).trans t0, (hq.cell (p := ⟨g, off + k * 6 + 1, none⟩) hg).trans t1, (hq.cell (p := ⟨g, off + j * 6, none⟩) hg).trans s0, hq⟩
    have i1 : IntKind.i64.wrap ((k : Int) - 1) = (j : Int) := by rw [IntKind.wrap_i64]; omega
    have i2 : (0 : Int) < (k : Int) := by omega
    have i3 : (j : Int) < (n : Int) := by omega
    have i4 : (0 : Int) ≤ (j : Int) := by omega
    have i5 : decide (0 < k) = true := decide_eq_true (by omega)
    have i6 : decide (j < n) = true := decide_eq_true (by omega)
    cases vl with
    | false =>
     have HNo : Hid (¬ okS s k) := Lib.hid fun h => by
      have := h.1
      rw [hE] at this
      simp only at this
      rw [hvl] at this
      cases this
     clear hx hE hvl t0 t1 hg hxj hpc s0 hkj k0
     go_wp2_with fail
     refine wp_region_held_drew (S := (fun w' => w'.cell? ⟨g, off + k * 6, none⟩ = some (.int .i64 c) ∧ w'.cell? ⟨g, off + k * 6 + 1, none⟩ = some (.int .i64 q) ∧ w'.cell? ⟨g, off + j * 6, none⟩ = some (.int .i64 pc) ∧ Below wr.heap.size wr w')) (by kernel_rfl) ?_ (fun hHeld => ?_)
     ·((first
      | exact HKP.out _ (Below.refl _ _)
      | exact HKP.out _ (Below.refl _ _).drew
      | exact HKP.out _ (below_self (Below.refl _ _).drew hbw)
      | fail))
     (refine tkA 0 (v := ?_) ?_ ?_; rotate_left; focus (intro w hSw; (try dsimp only at hSw); go_simp; try rfl)); try simp only [Act.put, gA1, gA2, gA3, gA4, gA5, gA6]
     (refine tkA 1 (v := ?_) ?_ ?_; rotate_left; focus (intro w hSw; (try dsimp only at hSw); go_simp; try rfl)); try simp only [Act.put, gA1, gA2, gA3, gA4, gA5, gA6]
     (refine tkA 2 (v := ?_) ?_ ?_; rotate_left; focus (intro w hSw; (try dsimp only at hSw); go_simp; try rfl)); try simp only [Act.put, gA1, gA2, gA3, gA4, gA5, gA6]
     (refine tkA 3 (v := ?_) ?_ ?_; rotate_left; focus (intro w hSw; (try dsimp only at hSw); go_simp; try rfl)); try simp only [Act.put, gA1, gA2, gA3, gA4, gA5, gA6]
     (refine tkA 4 (v := ?_) ?_ ?_; rotate_left; focus (intro w hSw; (try dsimp only at hSw); go_simp; try rfl)); try simp only [Act.put, gA1, gA2, gA3, gA4, gA5, gA6]
     (refine tkA 5 (v := ?_) ?_ ?_; rotate_left; focus (intro w hSw; (try dsimp only at hSw); go_simp; try rfl)); try simp only [Act.put, gA1, gA2, gA3, gA4, gA5, gA6]
     (refine tkA 6 (v := ?_) ?_ ?_; rotate_left; focus (intro w hSw; (try dsimp only at hSw); go_simp; try rfl)); try simp only [Act.put, gA1, gA2, gA3, gA4, gA5, gA6]
     (refine tkA 7 (v := ?_) ?_ ?_; rotate_left; focus (intro w hSw; (try dsimp only at hSw); go_simp; try rfl)); try simp only [Act.put, gA1, gA2, gA3, gA4, gA5, gA6]
     (refine tkA 8 (v := ?_) ?_ ?_; rotate_left; focus (intro w hSw; (try dsimp only at hSw); go_simp; try rfl)); try simp only [Act.put, gA1, gA2, gA3, gA4, gA5, gA6]
     (refine tkA 9 (v := ?_) ?_ ?_; rotate_left; focus (intro w hSw; (try dsimp only at hSw); go_simp; try rfl)); try simp only [Act.put, gA1, gA2, gA3, gA4, gA5, gA6]
     (refine tkA 10 (v := ?_) ?_ ?_; rotate_left; focus (intro w hSw; (try dsimp only at hSw); go_simp; try rfl)); try simp only [Act.put, gA1, gA2, gA3, gA4, gA5, gA6]
     refine wpAnyH_ready (rs := [11]) (by kernel_rfl) (by simp) ?_
     refine (AllReadyH.cons rfl (fun K hK => ?_) AllReadyH.nil)
     go_simp
     (go_at_call 23; refine (HVl.out _).mono ?_; rintro e w1 ⟨rfl, hbw⟩)
     refine hK.out _ _ ?_ (fun hHeld => ?_)
     ·((first
      | exact HKP.out _ (Below.refl _ _)
      | exact HKP.out _ (Below.refl _ _).drew
      | exact HKP.out _ (below_self (Below.refl _ _).drew hbw)
      | fail))
     clear hK K
     try simp only [Act.put, gA1, gA2, gA3, gA4, gA5, gA6]
     (refine tkA 12 (v := ?_) ?_ ?_; rotate_left; focus (intro w hSw; (try dsimp only at hSw); go_simp; try rfl)); try simp only [Act.put, gA1, gA2, gA3, gA4, gA5, gA6]
     (refine tkA 13 (v := ?_) ?_ ?_; rotate_left; focus (intro w hSw; (try dsimp only at hSw); go_simp; try rfl)); try simp only [Act.put, gA1, gA2, gA3, gA4, gA5, gA6]
     refine utA 14 ?_; try simp only [Act.put, gA1, gA2, gA3, gA4, gA5, gA6]
     refine utA 15 ?_; try simp only [Act.put, gA1, gA2, gA3, gA4, gA5, gA6]
     refine utA 16 ?_; try simp only [Act.put, gA1, gA2, gA3, gA4, gA5, gA6]
     refine utA 17 ?_; try simp only [Act.put, gA1, gA2, gA3, gA4, gA5, gA6]
     refine utA 18 ?_; try simp only [Act.put, gA1, gA2, gA3, gA4, gA5, gA6]
     refine utA 19 ?_; try simp only [Act.put, gA1, gA2, gA3, gA4, gA5, gA6]
     refine utA 20 ?_; try simp only [Act.put, gA1, gA2, gA3, gA4, gA5, gA6]
     refine utA 21 ?_; try simp only [Act.put, gA1, gA2, gA3, gA4, gA5, gA6]
     refine utA 22 ?_; try simp only [Act.put, gA1, gA2, gA3, gA4, gA5, gA6]
     refine utA 23 ?_; try simp only [Act.put, gA1, gA2, gA3, gA4, gA5, gA6]
     refine utA 24 ?_; try simp only [Act.put, gA1, gA2, gA3, gA4, gA5, gA6]
     refine utA 25 ?_; try simp only [Act.put, gA1, gA2, gA3, gA4, gA5, gA6]
     refine utA 26 ?_; try simp only [Act.put, gA1, gA2, gA3, gA4, gA5, gA6]
     refine utA 27 ?_; try simp only [Act.put, gA1, gA2, gA3, gA4, gA5, gA6]
     refine utA 28 ?_; try simp only [Act.put, gA1, gA2, gA3, gA4, gA5, gA6]
     refine utA 29 ?_; try simp only [Act.put, gA1, gA2, gA3, gA4, gA5, gA6]
     (refine tkA 30 (v := ?_) ?_ ?_; rotate_left; focus (intro w hSw; (try dsimp only at hSw); go_simp; try rfl)); try simp only [Act.put, gA1, gA2, gA3, gA4, gA5, gA6]
     refine wpAnyH_done (by kernel_rfl) ?_ _
     have HB1 := Lib.hid (hB.out.trans ((below_self (Below.refl _ _).drew hbw).mono hB.out.size))
     clear hbw HKP hB hG
     go_wp2
     go_ret
     exact .inr ⟨rfl, (fun q => HNo.out (q _ HKL.out)), HB1.out⟩
    | true =>
     by_cases hge : c ≤ pc
     ·have g1 : decide (c ≤ pc) = true := decide_eq_true hge
      have HNo : Hid (¬ okS s k) := Lib.hid fun h => by
       have := h.2.resolve_left k0
       rw [hE, show k - 1 = j by omega, hpc] at this
       simp only at this
       omega
      clear hx hE hvl t0 t1 hg hxj hpc s0 hkj k0
      go_wp2_with fail
      refine wp_region_held_drew (S := (fun w' => w'.cell? ⟨g, off + k * 6, none⟩ = some (.int .i64 c) ∧ w'.cell? ⟨g, off + k * 6 + 1, none⟩ = some (.int .i64 q) ∧ w'.cell? ⟨g, off + j * 6, none⟩ = some (.int .i64 pc) ∧ Below wr.heap.size wr w')) (by kernel_rfl) ?_ (fun hHeld => ?_)
      ·((first
       | exact HKP.out _ (Below.refl _ _)
       | exact HKP.out _ (Below.refl _ _).drew
       | exact HKP.out _ (below_self (Below.refl _ _).drew hbw)
       | fail))
      (refine tkA 0 (v := ?_) ?_ ?_; rotate_left; focus (intro w hSw; (try dsimp only at hSw); go_simp; try rfl)); try simp only [Act.put, gA1, gA2, gA3, gA4, gA5, gA6]
      (refine tkA 1 (v := ?_) ?_ ?_; rotate_left; focus (intro w hSw; (try dsimp only at hSw); go_simp; try rfl)); try simp only [Act.put, gA1, gA2, gA3, gA4, gA5, gA6]
      (refine tkA 2 (v := ?_) ?_ ?_; rotate_left; focus (intro w hSw; (try dsimp only at hSw); go_simp; try rfl)); try simp only [Act.put, gA1, gA2, gA3, gA4, gA5, gA6]
      (refine tkA 3 (v := ?_) ?_ ?_; rotate_left; focus (intro w hSw; (try dsimp only at hSw); go_simp; try rfl)); try simp only [Act.put, gA1, gA2, gA3, gA4, gA5, gA6]
      (refine tkA 4 (v := ?_) ?_ ?_; rotate_left; focus (intro w hSw; (try dsimp only at hSw); go_simp; try rfl)); try simp only [Act.put, gA1, gA2, gA3, gA4, gA5, gA6]
      (refine tkA 5 (v := ?_) ?_ ?_; rotate_left; focus (intro w hSw; (try dsimp only at hSw); go_simp; try rfl)); try simp only [Act.put, gA1, gA2, gA3, gA4, gA5, gA6]
      (refine tkA 6 (v := ?_) ?_ ?_; rotate_left; focus (intro w hSw; (try dsimp only at hSw); go_simp; try rfl)); try simp only [Act.put, gA1, gA2, gA3, gA4, gA5, gA6]
      (refine tkA 7 (v := ?_) ?_ ?_; rotate_left; focus (intro w hSw; (try dsimp only at hSw); go_simp; try rfl)); try simp only [Act.put, gA1, gA2, gA3, gA4, gA5, gA6]
      (refine tkA 8 (v := ?_) ?_ ?_; rotate_left; focus (intro w hSw; (try dsimp only at hSw); go_simp; try rfl)); try simp only [Act.put, gA1, gA2, gA3, gA4, gA5, gA6]
      (refine tkA 9 (v := ?_) ?_ ?_; rotate_left; focus (intro w hSw; (try dsimp only at hSw); go_simp; try rfl)); try simp only [Act.put, gA1, gA2, gA3, gA4, gA5, gA6]
      (refine tkA 10 (v := ?_) ?_ ?_; rotate_left; focus (intro w hSw; (try dsimp only at hSw); go_simp; try rfl)); try simp only [Act.put, gA1, gA2, gA3, gA4, gA5, gA6]
      refine wpAnyH_ready (rs := [11]) (by kernel_rfl) (by simp) ?_
      refine (AllReadyH.cons rfl (fun K hK => ?_) AllReadyH.nil)
      go_simp
      (go_at_call 23; refine (HVl.out _).mono ?_; rintro e w1 ⟨rfl, hbw⟩)
      refine hK.out _ _ ?_ (fun hHeld => ?_)
      ·((first
       | exact HKP.out _ (Below.refl _ _)
       | exact HKP.out _ (Below.refl _ _).drew
       | exact HKP.out _ (below_self (Below.refl _ _).drew hbw)
       | fail))
      clear hK K
      try simp only [Act.put, gA1, gA2, gA3, gA4, gA5, gA6]
      (refine tkA 12 (v := ?_) ?_ ?_; rotate_left; focus (intro w hSw; (try dsimp only at hSw); go_simp; try rfl)); try simp only [Act.put, gA1, gA2, gA3, gA4, gA5, gA6]
      (refine tkA 13 (v := ?_) ?_ ?_; rotate_left; focus (intro w hSw; (try dsimp only at hSw); go_simp; try rfl)); try simp only [Act.put, gA1, gA2, gA3, gA4, gA5, gA6]
      (refine tkA 14 (v := ?_) ?_ ?_; rotate_left; focus (intro w hSw; (try dsimp only at hSw); go_simp; try rfl)); try simp only [Act.put, gA1, gA2, gA3, gA4, gA5, gA6]
      (refine tkA 15 (v := ?_) ?_ ?_; rotate_left; focus (intro w hSw; (try dsimp only at hSw); go_simp; try rfl)); try simp only [Act.put, gA1, gA2, gA3, gA4, gA5, gA6]
      (refine tkA 16 (v := ?_) ?_ ?_; rotate_left; focus (intro w hSw; (try dsimp only at hSw); go_simp; try rfl)); try simp only [Act.put, gA1, gA2, gA3, gA4, gA5, gA6]
      (refine tkA 17 (v := ?_) ?_ ?_; rotate_left; focus (intro w hSw; (try dsimp only at hSw); go_simp; try rfl)); try simp only [Act.put, gA1, gA2, gA3, gA4, gA5, gA6]
      (refine tkA 18 (v := ?_) ?_ ?_; rotate_left; focus (intro w hSw; (try dsimp only at hSw); go_simp; try rfl)); try simp only [Act.put, gA1, gA2, gA3, gA4, gA5, gA6]
      (refine tkA 19 (v := ?_) ?_ ?_; rotate_left; focus (intro w hSw; (try dsimp only at hSw); go_simp; try rfl)); try simp only [Act.put, gA1, gA2, gA3, gA4, gA5, gA6]
      (refine tkA 20 (v := ?_) ?_ ?_; rotate_left; focus (intro w hSw; (try dsimp only at hSw); go_simp; try rfl)); try simp only [Act.put, gA1, gA2, gA3, gA4, gA5, gA6]
      (refine tkA 21 (v := ?_) ?_ ?_; rotate_left; focus (intro w hSw; (try dsimp only at hSw); go_simp; try rfl)); try simp only [Act.put, gA1, gA2, gA3, gA4, gA5, gA6]
      (refine tkA 22 (v := ?_) ?_ ?_; rotate_left; focus (intro w hSw; (try dsimp only at hSw); go_simp; try rfl)); try simp only [Act.put, gA1, gA2, gA3, gA4, gA5, gA6]
      (refine tkA 23 (v := ?_) ?_ ?_; rotate_left; focus (intro w hSw; (try dsimp only at hSw); go_simp; try rfl)); try simp only [Act.put, gA1, gA2, gA3, gA4, gA5, gA6]
      (refine tkA 24 (v := ?_) ?_ ?_; rotate_left; focus (intro w hSw; (try dsimp only at hSw); go_simp; try rfl)); try simp only [Act.put, gA1, gA2, gA3, gA4, gA5, gA6]
      (refine tkA 25 (v := ?_) ?_ ?_; rotate_left; focus (intro w hSw; (try dsimp only at hSw); go_simp; try rfl)); try simp only [Act.put, gA1, gA2, gA3, gA4, gA5, gA6]
      (refine tkA 26 (v := ?_) ?_ ?_; rotate_left; focus (intro w hSw; (try dsimp only at hSw); go_simp; try rfl)); try simp only [Act.put, gA1, gA2, gA3, gA4, gA5, gA6]
      (refine tkA 27 (v := ?_) ?_ ?_; rotate_left; focus (intro w hSw; (try dsimp only at hSw); go_simp; try rfl)); try simp only [Act.put, gA1, gA2, gA3, gA4, gA5, gA6]
      (refine tkA 28 (v := ?_) ?_ ?_; rotate_left; focus (intro w hSw; (try dsimp only at hSw); go_simp; try rfl)); try simp only [Act.put, gA1, gA2, gA3, gA4, gA5, gA6]
      (refine tkA 29 (v := ?_) ?_ ?_; rotate_left; focus (intro w hSw; (try dsimp only at hSw); go_simp; try rfl)); try simp only [Act.put, gA1, gA2, gA3, gA4, gA5, gA6]
      (refine tkA 30 (v := ?_) ?_ ?_; rotate_left; focus (intro w hSw; (try dsimp only at hSw); go_simp; try rfl)); try simp only [Act.put, gA1, gA2, gA3, gA4, gA5, gA6]
      refine wpAnyH_done (by kernel_rfl) ?_ _
      have HB1 := Lib.hid (hB.out.trans ((below_self (Below.refl _ _).drew hbw).mono hB.out.size))
      clear hbw HKP hB hG
      go_wp2
      go_ret
      exact .inr ⟨rfl, (fun q => HNo.out (q _ HKL.out)), HB1.out⟩
     ·have g1 : decide (c ≤ pc) = false := decide_eq_false hge
      have HOk : Hid (okS s k) := Lib.hid ⟨by rw [hE]; exact hvl, .inr (by
       rw [hE, show k - 1 = j by omega, hpc]
       simp only
       omega)⟩
      clear hx hE hvl t0 t1 hg hxj hpc s0 hkj k0
      go_wp2_with fail
      refine wp_region_held_drew (S := (fun w' => w'.cell? ⟨g, off + k * 6, none⟩ = some (.int .i64 c) ∧ w'.cell? ⟨g, off + k * 6 + 1, none⟩ = some (.int .i64 q) ∧ w'.cell? ⟨g, off + j * 6, none⟩ = some (.int .i64 pc) ∧ Below wr.heap.size wr w')) (by kernel_rfl) ?_ (fun hHeld => ?_)
      ·((first
       | exact HKP.out _ (Below.refl _ _)
       | exact HKP.out _ (Below.refl _ _).drew
       | exact HKP.out _ (below_self (Below.refl _ _).drew hbw)
       | fail))
      (refine tkA 0 (v := ?_) ?_ ?_; rotate_left; focus (intro w hSw; (try dsimp only at hSw); go_simp; try rfl)); try simp only [Act.put, gA1, gA2, gA3, gA4, gA5, gA6]
      (refine tkA 1 (v := ?_) ?_ ?_; rotate_left; focus (intro w hSw; (try dsimp only at hSw); go_simp; try rfl)); try simp only [Act.put, gA1, gA2, gA3, gA4, gA5, gA6]
      (refine tkA 2 (v := ?_) ?_ ?_; rotate_left; focus (intro w hSw; (try dsimp only at hSw); go_simp; try rfl)); try simp only [Act.put, gA1, gA2, gA3, gA4, gA5, gA6]
      (refine tkA 3 (v := ?_) ?_ ?_; rotate_left; focus (intro w hSw; (try dsimp only at hSw); go_simp; try rfl)); try simp only [Act.put, gA1, gA2, gA3, gA4, gA5, gA6]
      (refine tkA 4 (v := ?_) ?_ ?_; rotate_left; focus (intro w hSw; (try dsimp only at hSw); go_simp; try rfl)); try simp only [Act.put, gA1, gA2, gA3, gA4, gA5, gA6]
      (refine tkA 5 (v := ?_) ?_ ?_; rotate_left; focus (intro w hSw; (try dsimp only at hSw); go_simp; try rfl)); try simp only [Act.put, gA1, gA2, gA3, gA4, gA5, gA6]
      (refine tkA 6 (v := ?_) ?_ ?_; rotate_left; focus (intro w hSw; (try dsimp only at hSw); go_simp; try rfl)); try simp only [Act.put, gA1, gA2, gA3, gA4, gA5, gA6]
      (refine tkA 7 (v := ?_) ?_ ?_; rotate_left; focus (intro w hSw; (try dsimp only at hSw); go_simp; try rfl)); try simp only [Act.put, gA1, gA2, gA3, gA4, gA5, gA6]
      (refine tkA 8 (v := ?_) ?_ ?_; rotate_left; focus (intro w hSw; (try dsimp only at hSw); go_simp; try rfl)); try simp only [Act.put, gA1, gA2, gA3, gA4, gA5, gA6]
      (refine tkA 9 (v := ?_) ?_ ?_; rotate_left; focus (intro w hSw; (try dsimp only at hSw); go_simp; try rfl)); try simp only [Act.put, gA1, gA2, gA3, gA4, gA5, gA6]
      (refine tkA 10 (v := ?_) ?_ ?_; rotate_left; focus (intro w hSw; (try dsimp only at hSw); go_simp; try rfl)); try simp only [Act.put, gA1, gA2, gA3, gA4, gA5, gA6]
      refine wpAnyH_ready (rs := [11]) (by kernel_rfl) (by simp) ?_
      refine (AllReadyH.cons rfl (fun K hK => ?_) AllReadyH.nil)
      go_simp
      (go_at_call 23; refine (HVl.out _).mono ?_; rintro e w1 ⟨rfl, hbw⟩)
      refine hK.out _ _ ?_ (fun hHeld => ?_)
      ·((first
       | exact HKP.out _ (Below.refl _ _)
       | exact HKP.out _ (Below.refl _ _).drew
       | exact HKP.out _ (below_self (Below.refl _ _).drew hbw)
       | fail))
      clear hK K
      try simp only [Act.put, gA1, gA2, gA3, gA4, gA5, gA6]
      (refine tkA 12 (v := ?_) ?_ ?_; rotate_left; focus (intro w hSw; (try dsimp only at hSw); go_simp; try rfl)); try simp only [Act.put, gA1, gA2, gA3, gA4, gA5, gA6]
      (refine tkA 13 (v := ?_) ?_ ?_; rotate_left; focus (intro w hSw; (try dsimp only at hSw); go_simp; try rfl)); try simp only [Act.put, gA1, gA2, gA3, gA4, gA5, gA6]
      (refine tkA 14 (v := ?_) ?_ ?_; rotate_left; focus (intro w hSw; (try dsimp only at hSw); go_simp; try rfl)); try simp only [Act.put, gA1, gA2, gA3, gA4, gA5, gA6]
      (refine tkA 15 (v := ?_) ?_ ?_; rotate_left; focus (intro w hSw; (try dsimp only at hSw); go_simp; try rfl)); try simp only [Act.put, gA1, gA2, gA3, gA4, gA5, gA6]
      (refine tkA 16 (v := ?_) ?_ ?_; rotate_left; focus (intro w hSw; (try dsimp only at hSw); go_simp; try rfl)); try simp only [Act.put, gA1, gA2, gA3, gA4, gA5, gA6]
      (refine tkA 17 (v := ?_) ?_ ?_; rotate_left; focus (intro w hSw; (try dsimp only at hSw); go_simp; try rfl)); try simp only [Act.put, gA1, gA2, gA3, gA4, gA5, gA6]
      (refine tkA 18 (v := ?_) ?_ ?_; rotate_left; focus (intro w hSw; (try dsimp only at hSw); go_simp; try rfl)); try simp only [Act.put, gA1, gA2, gA3, gA4, gA5, gA6]
      (refine tkA 19 (v := ?_) ?_ ?_; rotate_left; focus (intro w hSw; (try dsimp only at hSw); go_simp; try rfl)); try simp only [Act.put, gA1, gA2, gA3, gA4, gA5, gA6]
      (refine tkA 20 (v := ?_) ?_ ?_; rotate_left; focus (intro w hSw; (try dsimp only at hSw); go_simp; try rfl)); try simp only [Act.put, gA1, gA2, gA3, gA4, gA5, gA6]
      (refine tkA 21 (v := ?_) ?_ ?_; rotate_left; focus (intro w hSw; (try dsimp only at hSw); go_simp; try rfl)); try simp only [Act.put, gA1, gA2, gA3, gA4, gA5, gA6]
      (refine tkA 22 (v := ?_) ?_ ?_; rotate_left; focus (intro w hSw; (try dsimp only at hSw); go_simp; try rfl)); try simp only [Act.put, gA1, gA2, gA3, gA4, gA5, gA6]
      (refine tkA 23 (v := ?_) ?_ ?_; rotate_left; focus (intro w hSw; (try dsimp only at hSw); go_simp; try rfl)); try simp only [Act.put, gA1, gA2, gA3, gA4, gA5, gA6]
      (refine tkA 24 (v := ?_) ?_ ?_; rotate_left; focus (intro w hSw; (try dsimp only at hSw); go_simp; try rfl)); try simp only [Act.put, gA1, gA2, gA3, gA4, gA5, gA6]
      (refine tkA 25 (v := ?_) ?_ ?_; rotate_left; focus (intro w hSw; (try dsimp only at hSw); go_simp; try rfl)); try simp only [Act.put, gA1, gA2, gA3, gA4, gA5, gA6]
      (refine tkA 26 (v := ?_) ?_ ?_; rotate_left; focus (intro w hSw; (try dsimp only at hSw); go_simp; try rfl)); try simp only [Act.put, gA1, gA2, gA3, gA4, gA5, gA6]
      (refine tkA 27 (v := ?_) ?_ ?_; rotate_left; focus (intro w hSw; (try dsimp only at hSw); go_simp; try rfl)); try simp only [Act.put, gA1, gA2, gA3, gA4, gA5, gA6]
      (refine tkA 28 (v := ?_) ?_ ?_; rotate_left; focus (intro w hSw; (try dsimp only at hSw); go_simp; try rfl)); try simp only [Act.put, gA1, gA2, gA3, gA4, gA5, gA6]
      (refine tkA 29 (v := ?_) ?_ ?_; rotate_left; focus (intro w hSw; (try dsimp only at hSw); go_simp; try rfl)); try simp only [Act.put, gA1, gA2, gA3, gA4, gA5, gA6]
      (refine tkA 30 (v := ?_) ?_ ?_; rotate_left; focus (intro w hSw; (try dsimp only at hSw); go_simp; try rfl)); try simp only [Act.put, gA1, gA2, gA3, gA4, gA5, gA6]
      refine wpAnyH_done (by kernel_rfl) ?_ _
      have HB1 := Lib.hid (hB.out.trans ((below_self (Below.refl _ _).drew hbw).mono hB.out.size))
      have HOk2 : Hid (∀ i, i < k + 1 → okS s i) := Lib.hid (fun i hi => by
       by_cases ei : i = k
       ·rw [ei]; exact HOk.out
       ·exact hG.out i (by omega))
      clear hbw HKP hB hG
      go_wp2
      go_roundw
      case rel => exact ⟨k + 1, by omega, by go_num, HB1, HOk2⟩
      case measure => simp [intOf]; omega
  ·obtain rfl : k = n := by omega
   have hlt' : ¬ (k : Int) < (k : Int) := by omega
   have HG : Hid (∀ j, j < s.length → okS s j) := Lib.hid (by rw [← HN.out]; exact hG.out)
   clear hlt hG
   go_wp2
   go_ret
   exact .inl ⟨rfl, HG.out, hB.out⟩
end Go.Proofs.YtodcmhmankmaoaaGreat
