/-
  The walk of NumSpoilt: three writers side by side.
-/
import Derived.Test.YtipdlhaegkjchaaNumE
import Derived.Test.YtipdlhaegkjchaaNf
namespace Go.Proofs.Ytipdlhaegkjchaa
open Go.RowKit
set_option linter.unusedSimpArgs false
set_option linter.unusedVariables false

/-- Two rows of unlike blocks. -/
def Apt (v u : Value) : Prop := ∀ k, v.ownBlock = some k → u.ownBlock ≠ some k
theorem Apt.symm {v u : Value} (h : Apt v u) : Apt u v := fun k hk e => h k e hk
theorem Apt.next {w : World} {B : Nat} {v v' u : Value} {ys : List Int} (h : Apt v u) (hn : Next w v v') (hu : Own8 w B u ys) : Apt v' u := fun k hk e => by
  rcases hn k hk with q | q
  · exact h k q e
  · have := hu.lt k e; omega
theorem WrV.beside {w w' : World} {B b c : Nat} {v u : Value} {xs ys : List Int} {sp sq : Bool} (h : WrV w B b v xs sp) (h2 : WrV w B c u ys sq) (hbc : b ≠ c) (ha : Apt v u) (hF : Foot w w' b v) : WrV w' B c u ys sq :=
  h2.keep hF.size (hF.block c h2.lt (fun e => hbc e.symm) (fun e => far_wr h.own h2.blk c e.symm rfl)) (fun k hk => hF.block k (h2.own.lt k hk) (far_wr h2.own h.blk k hk) (fun e => ha k e.symm hk))
theorem WrV.le {w : World} {B B2 b : Nat} {v : Value} {xs : List Int} {sp : Bool} (h : WrV w B b v xs sp) (hb : B2 ≤ B) : WrV w B2 b v xs sp :=
  ⟨h.lt, Nat.le_trans hb h.low, h.c0, h.c1, h.f0, h.f1, h.own.le hb, h.far, h.blk⟩
def VNP2 (w : World) (e : Ending) (w' : World) : Prop := Hid (e = .returned (.pointer (some ⟨w.heap.size, 0, none⟩))) ∧ WrV w' w.heap.size w.heap.size (.slice none 0 0) [] false ∧ Below w.heap.size w w' ∧ w'.heap.size = w.heap.size + 1
theorem vnew2_any (w : World) : Calls Try.prog 9 #[] w (VNP2 w) := by
  go_enter Try.func9, Try.ntmps9
  go_wp2
  go_ret
  exact ⟨rfl, ⟨by simp, Nat.le_refl _, by simp [go_sem], by simp [go_sem], by simp [go_sem], by simp [go_sem], Own8.nil _ _, (fun k hk => by cases hk), ⟨_, _, heap_alloc_new w _⟩⟩, (Below.refl _ _).alloc (Nat.le_refl _) _, by simp⟩
abbrev WS : Type := List Int × Bool
/-- Three writers, each with a row of its own. -/
structure Tri (w : World) (B x y z : Nat) (sx sy sz : WS) : Prop where
  rows : ∃ vx vy vz, WrV w B x vx sx.1 sx.2 ∧ WrV w B y vy sy.1 sy.2 ∧ WrV w B z vz sz.1 sz.2 ∧ Apt vx vy ∧ Apt vx vz ∧ Apt vy vz
  xy : x ≠ y
  xz : x ≠ z
  yz : y ≠ z
theorem Tri.swap {w : World} {B x y z : Nat} {sx sy sz : WS} (h : Tri w B x y z sx sy sz) : Tri w B y x z sy sx sz := by
  obtain ⟨⟨vx, vy, vz, h1, h2, h3, a1, a2, a3⟩, d1, d2, d3⟩ := h
  exact ⟨⟨vy, vx, vz, h2, h1, h3, a1.symm, a3, a2⟩, d1.symm, d3, d2⟩
theorem Tri.swap3 {w : World} {B x y z : Nat} {sx sy sz : WS} (h : Tri w B x y z sx sy sz) : Tri w B z y x sz sy sx := by
  obtain ⟨⟨vx, vy, vz, h1, h2, h3, a1, a2, a3⟩, d1, d2, d3⟩ := h
  exact ⟨⟨vz, vy, vx, h3, h2, h1, a3.symm, a2.symm, a1.symm⟩, d3.symm, d2.symm, d1.symm⟩
theorem Tri.below {w w' : World} {B x y z : Nat} {sx sy sz : WS} (h : Tri w B x y z sx sy sz) (hb : Below w.heap.size w w') : Tri w' B x y z sx sy sz := by
  obtain ⟨⟨vx, vy, vz, h1, h2, h3, a1, a2, a3⟩, d1, d2, d3⟩ := h
  exact ⟨⟨vx, vy, vz, h1.below hb, h2.below hb, h3.below hb, a1, a2, a3⟩, d1, d2, d3⟩
theorem Tri.base {w : World} {B x y z : Nat} {sx sy sz : WS} (h : Tri w B x y z sx sy sz) : B ≤ w.heap.size := by
  obtain ⟨⟨vx, vy, vz, h1, _⟩, _⟩ := h
  have := h1.lt; have := h1.low; omega
def TrP (x y z B : Nat) (sx sy sz : WS) (w : World) (e : Ending) (w' : World) : Prop := Hid (e = .returned (.pointer (some ⟨x, 0, none⟩))) ∧ Tri w' B x y z sx sy sz ∧ Below B w w'
theorem Tri.put {w : World} {B x y z : Nat} {sx sy sz s2 : WS} {f : FuncId} {args : Array Value} (h : Tri w B x y z sx sy sz) (hc : ∀ v, WrV w B x v sx.1 sx.2 → Calls Try.prog f args w (WNP B x v s2.1 s2.2 w)) : Calls Try.prog f args w (TrP x y z B s2 sy sz w) := by
  obtain ⟨⟨vx, vy, vz, h1, h2, h3, a1, a2, a3⟩, d1, d2, d3⟩ := h
  refine (hc vx h1).mono ?_
  rintro e w' ⟨he, v', g1, hF, hN⟩
  refine ⟨he, ⟨⟨v', vy, vz, g1, h1.beside h2 d1 a1 hF, h1.beside h3 d2 a2 hF, a1.next hN h2.own, a2.next hN h3.own, a3⟩, d1, d2, d3⟩, ?_⟩
  exact hF.below h1.low (fun k hk => by
    have := h1.own
    rcases this.2 with ⟨rfl, _⟩ | ⟨g, cap, cur, rfl, hg, _⟩
    · cases hk
    · simp [Value.ownBlock] at hk; omega) (by have := h1.lt; have := h1.low; omega)
theorem vw_text (B b k : Nat) (v0 : Value) (st : WS) (t : Th) (w : World) (hW : WrV w B b v0 st.1 st.2) (hk : StOk st k) (h3 : k ≤ 1000) (ht : t.2.2.size ≤ 3000) (hT : t.1 = true) :
    Calls Try.prog 10 #[.pointer (some ⟨b, 0, none⟩), .string t.2.2] w (WNP B b v0 (wst st t).1 (wst st t).2 w) := by
  obtain ⟨xs, sp⟩ := st
  cases sp with
  | true =>
    obtain rfl : xs = [] := hk.2 rfl
    rw [show wst ([], true) t = ([], true) from by unfold wst; rw [if_pos rfl]]
    exact vtext_spoilt B b t.2.2 v0 w hW
  | false =>
    have e : wst (xs, false) t = (xs ++ (enc t.2.2.size ++ byt t.2.2), false) := by
      unfold wst encT
      rw [if_neg (by simp), if_pos hT]
    rw [e]
    have := hk.1
    simp only at this
    exact vtext_good B b t.2.2 v0 xs w hW (by omega) (by omega)
theorem vw_num (B b k : Nat) (v0 : Value) (st : WS) (t : Th) (w : World) (hW : WrV w B b v0 st.1 st.2) (hk : StOk st k) (h3 : k ≤ 1000) (hT : t.1 = false) :
    Calls Try.prog 12 #[.pointer (some ⟨b, 0, none⟩), .int .i64 t.2.1] w (WNP B b v0 (wst st t).1 (wst st t).2 w) := by
  obtain ⟨xs, sp⟩ := st
  cases sp with
  | true =>
    obtain rfl : xs = [] := hk.2 rfl
    rw [show wst ([], true) t = ([], true) from by unfold wst; rw [if_pos rfl]]
    exact vnum_spoilt B b t.2.1 v0 w hW
  | false =>
    by_cases c : 0 ≤ t.2.1 ∧ t.2.1 ≤ 281474976710656
    · have e : wst (xs, false) t = (xs ++ enc t.2.1, false) := by
        unfold wst encT
        rw [if_neg (by simp), if_neg (by simp [hT]), if_pos c]
      rw [e]
      have := hk.1
      simp only at this
      exact vnum_good B b t.2.1 v0 xs w hW c.1 c.2 (by omega)
    · have e : wst (xs, false) t = ([], true) := by
        unfold wst encT
        rw [if_neg (by simp), if_neg (by simp [hT]), if_neg c]
      rw [e]
      exact vnum_bad B b t.2.1 v0 xs false w hW c
/-- The state behind the first things, from another state on. -/
def wsts2 (s : WS) (ts : List Th) (i : Nat) : WS := (ts.take i).foldl wst s
theorem wsts2_succ (s : WS) (ts : List Th) (i : Nat) (h : i < ts.length) : wsts2 s ts (i + 1) = wst (wsts2 s ts i) (ts.getD i default) := by
  unfold wsts2
  rw [List.take_succ_eq_append_getElem h, List.foldl_append]
  simp [List.getD, h]
theorem wsts2_ok (s : WS) (n : Nat) (hs0 : StOk s n) (ts : List Th) : ∀ i, i ≤ ts.length → (∀ j, j < i → (ts.getD j default).2.2.size ≤ 3000) → StOk (wsts2 s ts i) (n + i)
  | 0, _, _ => by simpa [wsts2] using hs0
  | i + 1, h, hs => by
    rw [wsts2_succ s ts i (by omega)]
    exact wst_ok (wsts2_ok s n hs0 ts i (by omega) (fun j hj => hs j (by omega))) _ (hs i (by omega))
theorem wst_sp (ts : List Th) : ts.foldl wst ([], true) = ([], true) := by
  induction ts with
  | nil => rfl
  | cons t ts ih => rw [List.foldl_cons, show wst ([], true) t = ([], true) from by unfold wst; rw [if_pos rfl], ih]
theorem wst_behind (ts : List Th) : ∀ (xs ys : List Int), ts.foldl wst (xs ++ ys, false) = if (ts.foldl wst (ys, false)).2 = true then ([], true) else (xs ++ (ts.foldl wst (ys, false)).1, false) := by
  induction ts with
  | nil => intro xs ys; rfl
  | cons t ts ih =>
    intro xs ys
    rw [List.foldl_cons, List.foldl_cons]
    cases he : encT t with
    | none =>
      have e1 : ∀ zs, wst (zs, false) t = ([], true) := fun zs => by unfold wst; rw [if_neg (by simp), he]
      rw [e1, e1, wst_sp]
      simp
    | some e =>
      have e1 : ∀ zs, wst (zs, false) t = (zs ++ e, false) := fun zs => by unfold wst; rw [if_neg (by simp), he]
      rw [e1, e1, List.append_assoc, ih]
theorem wsts2_z (a b : List Th) : wsts2 (wsts a a.length) b b.length = if (wsts a a.length).2 = true ∨ (wsts b b.length).2 = true then ([], true) else ((wsts a a.length).1 ++ (wsts b b.length).1, false) := by
  have hb : wsts2 (wsts a a.length) b b.length = b.foldl wst (wsts a a.length) := by unfold wsts2; rw [List.take_length]
  have hb2 : wsts b b.length = b.foldl wst ([], false) := by unfold wsts; rw [List.take_length]
  have hst : (wsts a a.length).2 = true → (wsts a a.length).1 = [] := by
    unfold wsts; rw [List.take_length]
    intro h
    by_cases q : (a.foldl wst ([], false)).1 = []
    · exact q
    · exfalso
      have key : ∀ (l : List Th) (s : WS), (s.2 = true → s.1 = []) → (l.foldl wst s).2 = true → (l.foldl wst s).1 = [] := by
        intro l
        induction l with
        | nil => intro s h h2; exact h h2
        | cons t l ih =>
          intro s h h2
          rw [List.foldl_cons] at h2 ⊢
          refine ih _ ?_ h2
          unfold wst
          split
          · intro _; rfl
          · cases encT t with
            | none => intro _; rfl
            | some e => intro h; cases h
      exact q (key a ([], false) (fun h => rfl) h)
  rw [hb]
  revert hst
  generalize wsts a a.length = st
  intro hst
  obtain ⟨xs, sp⟩ := st
  cases sp with
  | true =>
    obtain rfl : xs = [] := hst rfl
    rw [wst_sp]; simp
  | false =>
    have := wst_behind b xs []
    rw [List.append_nil] at this
    rw [this, ← hb2]
    simp

set_option maxRecDepth 100000 in
set_option maxHeartbeats 8000000 in
theorem spoilt_in (a : Option Addr) (cap : Nat) (ts : List Th) (a2 : Option Addr) (cap2 : Nat) (us : List Th) (w : World) (hr : TRd w a ts) (hr2 : TRd w a2 us) (hl : ts.length ≤ 300) (hl2 : us.length ≤ 300) (hok : ∀ t ∈ ts, ThOk t) (hok2 : ∀ t ∈ us, ThOk t) :
    Calls Try.prog 7 #[.slice a ts.length cap, .slice a2 us.length cap2] w fun e w' => e = .returned (.bool true) ∧ Below w.heap.size w w' := by
  have t1 : ¬ (300 : Int) < ts.length := by omega
  have t2 : ¬ (300 : Int) < us.length := by omega
  have HR := Lib.hid hr
  have HR2 := Lib.hid hr2
  have HO := Lib.hid hok
  have HO2 := Lib.hid hok2
  clear hr hok hr2 hok2
  go_enter Try.func7, Try.ntmps7
  go_wp2_with fail
  refine (works_any _).mono ?_
  rintro e w1 ⟨rfl, hb1⟩
  have HB1 := Lib.hid hb1
  clear hb1
  go_wp2_with fail
  refine (vnew2_any _).mono ?_
  rintro e w2 ⟨he, hW2, hb2, hz2⟩
  rw [he.out]
  clear he
  have HW2 := Lib.hid hW2
  have HZ2 := Lib.hid hz2
  clear hz2
  have HB2 := Lib.hid hb2
  clear hW2 hb2
  go_wp2_with fail
  refine (vnew2_any _).mono ?_
  rintro e w3 ⟨he, hW3, hb3, hz3⟩
  rw [he.out]
  clear he
  have HW3 := Lib.hid hW3
  have HZ3 := Lib.hid hz3
  clear hz3
  have HB3 := Lib.hid hb3
  clear hW3 hb3
  go_wp2_with fail
  refine (vnew2_any _).mono ?_
  rintro e w4 ⟨he, hW4, hb4, hz4⟩
  rw [he.out]
  clear he
  have hz2 := HZ2.out
  have hz3 := HZ3.out
  have hT : Tri w4 w1.heap.size w1.heap.size w2.heap.size w3.heap.size ([], false) ([], false) ([], false) :=
    ⟨⟨_, _, _, (HW2.out.below (HB3.out.trans (hb4.mono (by omega)))), (HW3.out.below hb4).le (by omega), hW4.le (by omega), (fun k hk => by cases hk), (fun k hk => by cases hk), (fun k hk => by cases hk)⟩, by omega, by omega, by omega⟩
  have HT := Lib.hid hT
  have HBw : Hid (Below w.heap.size w w4) := Lib.hid (HB1.out.trans ((HB2.out.trans ((HB3.out.trans (hb4.mono (by omega))).mono (by omega))).mono (HB1.out.size)))
  obtain ⟨B, hB⟩ : ∃ B, w1.heap.size = B := ⟨_, rfl⟩
  obtain ⟨Y, hY⟩ : ∃ Y, w2.heap.size = Y := ⟨_, rfl⟩
  obtain ⟨Z, hZ⟩ : ∃ Z, w3.heap.size = Z := ⟨_, rfl⟩
  have hwB : w.heap.size ≤ B := by have := HB1.out.size; omega
  rw [hB, hY, hZ] at HT
  simp only [hB, hY, hZ]
  clear hT hW4 hb4 HW3 HB3 HW2 HB2 HB1 hz2 hz3 hz4 hB hY hZ HZ2 HZ3
  go_wp2_with fail
  go_loopw [9] (fun c wr => ∃ k : Nat, k ≤ ts.length ∧ c = .int .i64 k ∧ Hid (Tri wr B B Y Z (wsts ts k) ([], false) (wsts ts k)) ∧ Hid (∀ j, j < k → (ts.getD j default).2.2.size ≤ 3000) ∧ Hid (Below w.heap.size w wr)) (fun c _ => ts.length - (intOf c).toNat)
  case atStart => exact ⟨0, by omega, rfl, HT, (fun j hj => by omega), HBw⟩
  case round =>
    clear HT HBw
    obtain ⟨k, hk, rfl, hWr, hsm, hB⟩ := hrel
    by_cases hlt : k < ts.length
    · obtain ⟨g, off, rfl, hg, c0, c1, c2⟩ := trd_at HR.out hlt
      have d0 := (hB.out.cell (p := ⟨g, off + k * 3, none⟩) hg).trans c0
      have d1 := (hB.out.cell (p := ⟨g, off + k * 3 + 1, none⟩) hg).trans c1
      have d2 := (hB.out.cell (p := ⟨g, off + k * 3 + 2, none⟩) hg).trans c2
      have hst := wsts_succ ts k hlt
      have hsk := wsts_ok ts k (by omega) hsm.out
      obtain ⟨t, ht⟩ : ∃ t, ts.getD k default = t := ⟨_, rfl⟩
      rw [ht] at d0 d1 d2 hst c0 c1 c2
      have HT := Lib.hid ht
      have HST := Lib.hid hst
      have HSK := Lib.hid hsk
      clear ht hst hsk
      obtain ⟨bo, n, s⟩ := t
      by_cases hs : (300 : Int) < s.size
      · go_wp2
        go_ret
        exact ⟨rfl, hB.out⟩
      · have hs2 : s.size ≤ 3000 := by omega
        have HS2 : Hid (∀ j, j < k + 1 → (ts.getD j default).2.2.size ≤ 3000) := by
          intro j hj
          by_cases q : j < k
          · exact hsm.out j q
          · obtain rfl : j = k := by omega
            rw [HT.out]; exact hs2
        cases bo with
        | true =>
          go_wp2_with fail
          refine (hWr.out.put (s2 := wst (wsts ts k) (true, n, s)) (fun v hv => vw_text B B k v _ (true, n, s) _ hv HSK.out (by omega) hs2 rfl)).mono ?_
          rintro e w5 ⟨he, hT5, hb5⟩
          rw [he.out]
          clear he
          have HB5 : Hid (Below w.heap.size w w5) := Lib.hid (hB.out.trans (hb5.mono hwB))
          have HT5 := Lib.hid hT5.swap3
          have e2 := (HB5.out.cell (p := ⟨g, off + k * 3 + 2, none⟩) hg).trans c2
          clear hT5 hb5 d0 d1 d2
          go_wp2_with fail
          refine (HT5.out.put (s2 := wst (wsts ts k) (true, n, s)) (fun v hv => vw_text B Z k v _ (true, n, s) _ hv HSK.out (by omega) hs2 rfl)).mono ?_
          rintro e w6 ⟨he, hT6, hb6⟩
          rw [he.out]
          clear he
          have HB6 : Hid (Below w.heap.size w w6) := Lib.hid (HB5.out.trans (hb6.mono hwB))
          have HT6 := Lib.hid hT6.swap3
          clear hT6 hb6 HB5 HT5 c0 c1 c2 e2
          go_wp2_with fail
          go_roundw
          case rel => exact ⟨k + 1, by omega, by go_num, by unfold Hid; rw [HST.out]; exact HT6.out, HS2, HB6⟩
          case measure => simp [intOf]; omega
        | false =>
          go_wp2_with fail
          refine (hWr.out.put (s2 := wst (wsts ts k) (false, n, s)) (fun v hv => vw_num B B k v _ (false, n, s) _ hv HSK.out (by omega) rfl)).mono ?_
          rintro e w5 ⟨he, hT5, hb5⟩
          rw [he.out]
          clear he
          have HB5 : Hid (Below w.heap.size w w5) := Lib.hid (hB.out.trans (hb5.mono hwB))
          have HT5 := Lib.hid hT5.swap3
          have e1 := (HB5.out.cell (p := ⟨g, off + k * 3 + 1, none⟩) hg).trans c1
          clear hT5 hb5 d0 d1 d2
          go_wp2_with fail
          refine (HT5.out.put (s2 := wst (wsts ts k) (false, n, s)) (fun v hv => vw_num B Z k v _ (false, n, s) _ hv HSK.out (by omega) rfl)).mono ?_
          rintro e w6 ⟨he, hT6, hb6⟩
          rw [he.out]
          clear he
          have HB6 : Hid (Below w.heap.size w w6) := Lib.hid (HB5.out.trans (hb6.mono hwB))
          have HT6 := Lib.hid hT6.swap3
          clear hT6 hb6 HB5 HT5 c0 c1 c2 e1
          go_wp2_with fail
          go_roundw
          case rel => exact ⟨k + 1, by omega, by go_num, by unfold Hid; rw [HST.out]; exact HT6.out, HS2, HB6⟩
          case measure => simp [intOf]; omega
    · have e : k = ts.length := by omega
      subst e
      have HA0 := Lib.hid (wsts_ok ts ts.length (by omega) hsm.out)
      have HZ0 : Hid (wsts2 (wsts ts ts.length) us 0 = wsts ts ts.length) := Lib.hid (by unfold wsts2; rfl)
      obtain ⟨sa, hsa⟩ : ∃ sa, wsts ts ts.length = sa := ⟨_, rfl⟩
      have HSA := Lib.hid hsa
      rw [hsa] at hWr HA0 HZ0
      clear hsa hsm
      go_wp2_with fail
      go_loopw [10] (fun c wr => ∃ k : Nat, k ≤ us.length ∧ c = .int .i64 k ∧ Hid (Tri wr B Y B Z (wsts us k) sa (wsts2 sa us k)) ∧ Hid (∀ j, j < k → (us.getD j default).2.2.size ≤ 3000) ∧ Hid (Below w.heap.size w wr)) (fun c _ => us.length - (intOf c).toNat)
      case atStart => exact ⟨0, by omega, rfl, Lib.hid (by rw [HZ0.out]; exact hWr.out.swap), (fun j hj => by omega), hB⟩
      case round =>
        clear hWr hB HZ0
        obtain ⟨k, hk, rfl, hWr, hsm, hB⟩ := hrel
        by_cases hlt : k < us.length
        · obtain ⟨g, off, rfl, hg, c0, c1, c2⟩ := trd_at HR2.out hlt
          have d0 := (hB.out.cell (p := ⟨g, off + k * 3, none⟩) hg).trans c0
          have d1 := (hB.out.cell (p := ⟨g, off + k * 3 + 1, none⟩) hg).trans c1
          have d2 := (hB.out.cell (p := ⟨g, off + k * 3 + 2, none⟩) hg).trans c2
          have hst := wsts_succ us k hlt
          have hst2 := wsts2_succ sa us k hlt
          have hsk := wsts_ok us k (by omega) hsm.out
          have hsk2 := wsts2_ok sa _ HA0.out us k (by omega) hsm.out
          obtain ⟨t, ht⟩ : ∃ t, us.getD k default = t := ⟨_, rfl⟩
          rw [ht] at d0 d1 d2 hst hst2 c0 c1 c2
          have HT := Lib.hid ht
          have HST := Lib.hid hst
          have HST2 := Lib.hid hst2
          have HSK := Lib.hid hsk
          have HSK2 := Lib.hid hsk2
          clear ht hst hsk hst2 hsk2
          obtain ⟨bo, n, s⟩ := t
          by_cases hs : (300 : Int) < s.size
          · go_wp2
            go_ret
            exact ⟨rfl, hB.out⟩
          · have hs2 : s.size ≤ 3000 := by omega
            have HS2 : Hid (∀ j, j < k + 1 → (us.getD j default).2.2.size ≤ 3000) := by
              intro j hj
              by_cases q : j < k
              · exact hsm.out j q
              · obtain rfl : j = k := by omega
                rw [HT.out]; exact hs2
            cases bo with
            | true =>
              go_wp2_with fail
              refine (hWr.out.put (s2 := wst (wsts us k) (true, n, s)) (fun v hv => vw_text B Y k v _ (true, n, s) _ hv HSK.out (by omega) hs2 rfl)).mono ?_
              rintro e w5 ⟨he, hT5, hb5⟩
              rw [he.out]
              clear he
              have HB5 : Hid (Below w.heap.size w w5) := Lib.hid (hB.out.trans (hb5.mono hwB))
              have HT5 := Lib.hid hT5.swap3
              have e2 := (HB5.out.cell (p := ⟨g, off + k * 3 + 2, none⟩) hg).trans c2
              clear hT5 hb5 d0 d1 d2
              go_wp2_with fail
              refine (HT5.out.put (s2 := wst (wsts2 sa us k) (true, n, s)) (fun v hv => vw_text B Z (ts.length + k) v _ (true, n, s) _ hv HSK2.out (by omega) hs2 rfl)).mono ?_
              rintro e w6 ⟨he, hT6, hb6⟩
              rw [he.out]
              clear he
              have HB6 : Hid (Below w.heap.size w w6) := Lib.hid (HB5.out.trans (hb6.mono hwB))
              have HT6 := Lib.hid hT6.swap3
              clear hT6 hb6 HB5 HT5 c0 c1 c2 e2
              go_wp2_with fail
              go_roundw
              case rel => exact ⟨k + 1, by omega, by go_num, by unfold Hid; rw [HST.out, HST2.out]; exact HT6.out, HS2, HB6⟩
              case measure => simp [intOf]; omega
            | false =>
              go_wp2_with fail
              refine (hWr.out.put (s2 := wst (wsts us k) (false, n, s)) (fun v hv => vw_num B Y k v _ (false, n, s) _ hv HSK.out (by omega) rfl)).mono ?_
              rintro e w5 ⟨he, hT5, hb5⟩
              rw [he.out]
              clear he
              have HB5 : Hid (Below w.heap.size w w5) := Lib.hid (hB.out.trans (hb5.mono hwB))
              have HT5 := Lib.hid hT5.swap3
              have e1 := (HB5.out.cell (p := ⟨g, off + k * 3 + 1, none⟩) hg).trans c1
              clear hT5 hb5 d0 d1 d2
              go_wp2_with fail
              refine (HT5.out.put (s2 := wst (wsts2 sa us k) (false, n, s)) (fun v hv => vw_num B Z (ts.length + k) v _ (false, n, s) _ hv HSK2.out (by omega) rfl)).mono ?_
              rintro e w6 ⟨he, hT6, hb6⟩
              rw [he.out]
              clear he
              have HB6 : Hid (Below w.heap.size w w6) := Lib.hid (HB5.out.trans (hb6.mono hwB))
              have HT6 := Lib.hid hT6.swap3
              clear hT6 hb6 HB5 HT5 c0 c1 c2 e1
              go_wp2_with fail
              go_roundw
              case rel => exact ⟨k + 1, by omega, by go_num, by unfold Hid; rw [HST.out, HST2.out]; exact HT6.out, HS2, HB6⟩
              case measure => simp [intOf]; omega
        · have e : k = us.length := by omega
          subst e
          have hz := wsts2_z ts us
          rw [HSA.out] at hz
          have hokz := wsts2_ok sa _ HA0.out us us.length (by omega) hsm.out
          have hokb := wsts_ok us us.length (by omega) hsm.out
          obtain ⟨⟨vy, vx, vz, hy, hx, hzz, _, _, _⟩, _, _, _⟩ := hWr.out
          obtain ⟨sb, hsb⟩ : ∃ sb, wsts us us.length = sb := ⟨_, rfl⟩
          obtain ⟨sz, hsz⟩ : ∃ sz, wsts2 sa us us.length = sz := ⟨_, rfl⟩
          rw [hsb] at hz hokb hy
          rw [hsz] at hz hokz hzz
          have HX := Lib.hid hx
          have HY := Lib.hid hy
          have HZ := Lib.hid hzz
          have hA0 := HA0.out
          clear hsb hsz hWr hsm HSA HO HO2 HR HR2 hx hy hzz HA0
          obtain ⟨xs, spx⟩ := sa
          obtain ⟨ys, spy⟩ := sb
          subst hz
          have lx := hA0.1
          have ly := hokb.1
          have ex := hA0.2
          have ey := hokb.2
          simp only at lx ly ex ey
          clear hokz hA0 hokb
          cases spx
          · cases spy
            · rw [if_neg (by simp)] at HZ
              simp only at HX HY HZ
              have hsum : txt (xs ++ ys) = txt xs ++ txt ys := txt_append _ _
              have lz : (xs ++ ys).length = xs.length + ys.length := by simp
              obtain ⟨XY, hXY⟩ : ∃ XY, xs ++ ys = XY := ⟨_, rfl⟩
              rw [hXY] at HZ hsum lz
              have HSU := Lib.hid hsum
              have hns : ¬ (9223372036854775807 < (txt xs).size + (txt ys).size) := by rw [txt_size, txt_size]; omega
              have lz2 : XY.length ≤ 99999999900 := by omega
              clear hXY hsum lz
              go_wp2_with fail
              refine (vbytes_good _ _ _ _ _ HX.out (by omega)).mono ?_
              rintro e w3 ⟨v3, he3, ho3, hb3⟩
              rw [he3.out]
              clear he3
              have HO3 := Lib.hid ho3
              have HB3 := Lib.hid hb3
              obtain ⟨p3, q3, rfl⟩ := ho3.slice
              clear ho3 hb3
              have HY3 := Lib.hid (HY.out.below HB3.out)
              have HZ3 := Lib.hid (HZ.out.below HB3.out)
              go_wp2_with fail
              refine (vbytes_good _ _ _ _ _ HY3.out (by omega)).mono ?_
              rintro e w4 ⟨v4, he4, ho4, hb4⟩
              rw [he4.out]
              clear he4
              have HO4 := Lib.hid ho4
              have HB4 := Lib.hid hb4
              obtain ⟨p4, q4, rfl⟩ := ho4.slice
              clear ho4 hb4
              have HZ4 := Lib.hid (HZ3.out.below HB4.out)
              go_wp2_with fail
              refine (vbytes_good _ _ _ _ _ HZ4.out lz2).mono ?_
              rintro e w5 ⟨v5, he5, ho5, hb5⟩
              rw [he5.out]
              clear he5
              obtain ⟨p5, q5, rfl⟩ := ho5.slice
              have cv5 := bt_text (ho5.bt (by omega))
              have cv4 := bt_text ((HO4.out.below hb5).bt (by omega))
              have cv3 := bt_text ((HO3.out.below (HB4.out.trans (hb5.mono HB4.out.size))).bt (by omega))
              have HB5 := Lib.hid (hB.out.trans ((HB3.out.trans ((HB4.out.trans (hb5.mono HB4.out.size)).mono HB3.out.size)).mono hB.out.size))
              rw [HSU.out] at cv5
              clear HSU hb5 ho5 HO4 HO3 HB4 HB3 hB HZ4 HZ3 HY3 HX HY HZ
              go_wp2
              go_ret
              exact ⟨rfl, HB5.out⟩
            · obtain rfl := ey rfl
              rw [if_pos (by simp)] at HZ
              simp only at HX HY HZ
              go_wp2_with fail
              refine (vbytes_good _ _ _ _ _ HX.out (by omega)).mono ?_
              rintro e w3 ⟨v3, he3, ho3, hb3⟩
              rw [he3.out]
              clear he3
              have HB3 := Lib.hid hb3
              obtain ⟨p3, q3, rfl⟩ := ho3.slice
              clear ho3 hb3
              have HY3 := Lib.hid (HY.out.below HB3.out)
              have HZ3 := Lib.hid (HZ.out.below HB3.out)
              have HB5 := Lib.hid (hB.out.trans (HB3.out.mono hB.out.size))
              clear HB3 hB HX HY HZ
              go_wp2_with fail
              refine (vbytes_bad _ _ _ _ HY3.out).mono ?_
              rintro e w5 ⟨rfl, rfl⟩
              go_wp2_with fail
              refine (vbytes_bad _ _ _ _ HZ3.out).mono ?_
              rintro e w5 ⟨rfl, rfl⟩
              go_wp2
              go_ret
              exact ⟨rfl, HB5.out⟩
          · obtain rfl := ex rfl
            rw [if_pos (by simp)] at HZ
            simp only at HX HY HZ
            go_wp2_with fail
            refine (vbytes_bad _ _ _ _ HX.out).mono ?_
            rintro e w5 ⟨rfl, rfl⟩
            cases spy
            · go_wp2_with fail
              refine (vbytes_good _ _ _ _ _ HY.out (by omega)).mono ?_
              rintro e w3 ⟨v3, he3, ho3, hb3⟩
              rw [he3.out]
              clear he3
              have HB3 := Lib.hid hb3
              obtain ⟨p3, q3, rfl⟩ := ho3.slice
              clear ho3 hb3
              have HZ3 := Lib.hid (HZ.out.below HB3.out)
              have HB5 := Lib.hid (hB.out.trans (HB3.out.mono hB.out.size))
              clear HB3 hB HX HY HZ
              go_wp2_with fail
              refine (vbytes_bad _ _ _ _ HZ3.out).mono ?_
              rintro e w5 ⟨rfl, rfl⟩
              go_wp2
              go_ret
              exact ⟨rfl, HB5.out⟩
            · obtain rfl := ey rfl
              go_wp2_with fail
              refine (vbytes_bad _ _ _ _ HY.out).mono ?_
              rintro e w5 ⟨rfl, rfl⟩
              go_wp2_with fail
              refine (vbytes_bad _ _ _ _ HZ.out).mono ?_
              rintro e w5 ⟨rfl, rfl⟩
              go_wp2
              go_ret
              exact ⟨rfl, hB.out⟩
set_option maxRecDepth 100000 in
set_option maxHeartbeats 1600000 in
theorem spoilt_law (a : Option Addr) (cap : Nat) (ts : List Th) (a2 : Option Addr) (cap2 : Nat) (us : List Th) (w : World) (hr : TRd w a ts) (hr2 : TRd w a2 us) (hok : ∀ t ∈ ts, ThOk t) (hok2 : ∀ t ∈ us, ThOk t) :
    Calls Try.prog 7 #[.slice a ts.length cap, .slice a2 us.length cap2] w fun e w' => e = .returned (.bool true) ∧ Below w.heap.size w w' := by
  by_cases hl : ts.length ≤ 300 ∧ us.length ≤ 300
  · exact spoilt_in a cap ts a2 cap2 us w hr hr2 hl.1 hl.2 hok hok2
  · by_cases hl1 : ts.length ≤ 300
    · have t1 : ¬ (300 : Int) < ts.length := by omega
      have t2 : (300 : Int) < us.length := by omega
      go_enter Try.func7, Try.ntmps7
      go_wp2_with (go_at_call 8; refine (works_any _).mono ?_; rintro e w1 ⟨rfl, hb1⟩)
      go_ret
      exact ⟨rfl, hb1⟩
    · have t1 : (300 : Int) < ts.length := by omega
      go_enter Try.func7, Try.ntmps7
      go_wp2_with (go_at_call 8; refine (works_any _).mono ?_; rintro e w1 ⟨rfl, hb1⟩)
      go_ret
      exact ⟨rfl, hb1⟩
end Go.Proofs.Ytipdlhaegkjchaa
