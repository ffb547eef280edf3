/-
  The walk of ConfigValid.
-/
import Derived.Test.YtacjmcjmenbekaaCfgO
import Derived.Test.YtacjmcjmenbekaaCmds
namespace Go.Proofs.Ytacjmcjmenbekaa
open Go.RowKit
set_option linter.unusedSimpArgs false
set_option linter.unusedVariables false

theorem sameB_no {ep : Int} {l m : List Int} {e : Int} (h : e ≠ ep) : sameB ep l e m = false := by
  unfold sameB
  have : ¬ ep = e := fun q => h q.symm
  simp [this]
set_option maxHeartbeats 1000000 in
theorem valid_far (ep : Int) (ad ac : Option Addr) (cap capc : Nat) (ns : List Int) (ts : List Cm) (w : World) (h : It w (.slice ad ns.length cap) ns) (hc : CRd w ac ts) (hf : (40 : Int) < ns.length ∨ (60 : Int) < ts.length) :
    Calls Try.prog 7 #[cfgV ep ad ns.length cap, .slice ac ts.length capc] w fun e w' => e = .returned (.bool true) ∧ Below w.heap.size w w' := by
  have HS0 := Lib.hid (held_box w ep ad ns.length cap)
  have hlen := h.len
  have hlen2 := hc.1
  by_cases t1 : (40 : Int) < ns.length
  · clear hf
    go_enter Try.func7, Try.ntmps7
    go_wp2_with (go_at_call 9; refine (works_any _).mono ?_; rintro e w1 ⟨rfl, hb⟩; have hn := HS0.out.kept hb; clear hb; have HS := Lib.hid hn; have hc := hn.cells; dsimp only [AllC, rowL] at hc; clear hn; go_split_ands)
    go_ret
    exact ⟨rfl, HS.out.below⟩
  · have hab : (60 : Int) < ts.length := by
      rcases hf with h | h
      · exact absurd h t1
      · exact h
    have t2 : decide ((40 : Int) < ns.length) = false := by simpa using t1
    clear hf
    go_enter Try.func7, Try.ntmps7
    go_wp2_with (go_at_call 9; refine (works_any _).mono ?_; rintro e w1 ⟨rfl, hb⟩; have hn := HS0.out.kept hb; clear hb; have HS := Lib.hid hn; have hc := hn.cells; dsimp only [AllC, rowL] at hc; clear hn; go_split_ands)
    go_ret
    exact ⟨rfl, HS.out.below⟩
set_option maxHeartbeats 1000000 in
theorem valid_not (ep : Int) (ad ac : Option Addr) (cap capc : Nat) (ns : List Int) (ts : List Cm) (w : World) (h : It w (.slice ad ns.length cap) ns) (hc : CRd w ac ts) (hl : ¬ (40 : Int) < ns.length) (hl2 : ¬ (60 : Int) < ts.length) (hv : valB ep ns = false) :
    Calls Try.prog 7 #[cfgV ep ad ns.length cap, .slice ac ts.length capc] w fun e w' => e = .returned (.bool true) ∧ Below w.heap.size w w' := by
  have HS0 := Lib.hid (held_box w ep ad ns.length cap)
  have HH := Lib.hid h
  have t2 : decide ((40 : Int) < ns.length) = false := by simpa using hl
  have t3 : decide ((60 : Int) < ts.length) = false := by simpa using hl2
  have HV := Lib.hid hv
  clear h hc hv
  go_enter Try.func7, Try.ntmps7
  go_wp2_with fail
  refine (works_any _).mono ?_
  rintro e w1 ⟨rfl, hb⟩
  have hn := HS0.out.kept hb
  clear hb HS0
  have HS1 := Lib.hid hn
  have hc1 := hn.cells
  dsimp only [AllC, rowL] at hc1
  clear hn
  go_split_ands
  go_wp2_with fail
  refine (valid_any _ _ _ ns _ (IRow.of_it (HH.out.below HS1.out.below))).mono ?_
  rw [HV.out]
  rintro e w2 ⟨rfl, hb⟩
  have HS2 := Lib.hid (HS1.out.kept hb)
  clear hb HS1
  go_wp2
  go_ret
  exact ⟨rfl, HS2.out.below⟩
/-- What stands in memory at each round of ConfigValid. -/
structure VInv (w : World) (ep : Int) (ad : Option Addr) (n cap : Nat) (s6 : Nat) (e : Int) (av : Option Addr) (cv : Nat) (l : List Int) (wr : World) : Prop where
  held : Held w (w.heap.size + 1) (rowL w.heap.size 0 [.int .i64 ep, .slice ad n cap] []) wr
  up : w.heap.size + 1 ≤ s6
  lt : s6 < wr.heap.size
  c0 : wr.cell? ⟨s6, 0, none⟩ = some (.int .i64 e)
  c1 : wr.cell? ⟨s6, 1, none⟩ = some (.slice av l.length cv)
  f0 : wr.frozen? ⟨s6, 0, none⟩ = false
  f1 : wr.frozen? ⟨s6, 1, none⟩ = false
  it : It wr (.slice av l.length cv) l
theorem VInv.kept {w : World} {ep : Int} {ad : Option Addr} {n cap s6 : Nat} {e : Int} {av : Option Addr} {cv : Nat} {l : List Int} {wr w' : World} (h : VInv w ep ad n cap s6 e av cv l wr) (hb : Below wr.heap.size wr w') : VInv w ep ad n cap s6 e av cv l w' :=
  ⟨h.held.kept hb, h.up, by have := h.lt; have := hb.size; omega, (hb.cell (p := ⟨s6, 0, none⟩) h.lt).trans h.c0, (hb.cell (p := ⟨s6, 1, none⟩) h.lt).trans h.c1, (hb.frozen (p := ⟨s6, 0, none⟩) h.lt).trans h.f0, (hb.frozen (p := ⟨s6, 1, none⟩) h.lt).trans h.f1, h.it.below hb⟩
theorem VInv.cells {w : World} {ep : Int} {ad : Option Addr} {n cap s6 : Nat} {e : Int} {av : Option Addr} {cv : Nat} {l : List Int} {wr : World} (h : VInv w ep ad n cap s6 e av cv l wr) :
    wr.cell? ⟨s6, 0, none⟩ = some (.int .i64 e) ∧ wr.cell? ⟨s6, 1, none⟩ = some (.slice av l.length cv) ∧ wr.frozen? ⟨s6, 0, none⟩ = false ∧ wr.frozen? ⟨s6, 1, none⟩ = false ∧ wr.cell? ⟨w.heap.size, 0, none⟩ = some (.int .i64 ep) ∧ wr.cell? ⟨w.heap.size, 1, none⟩ = some (.slice ad n cap) ∧ s6 < wr.heap.size ∧ w.heap.size < wr.heap.size :=
  ⟨h.c0, h.c1, h.f0, h.f1, h.held.cells.1, h.held.cells.2.1, h.lt, by have := h.lt; have := h.up; omega⟩
theorem keepV {w w4 w' : World} {ep : Int} {ad : Option Addr} {n cap s6 : Nat} {e : Int} {av : Option Addr} {cv : Nat} {l : List Int} {g o : Nat} {t : Cm} (h : VInv w ep ad n cap s6 e av cv l w4) (hc0 : CmAt w4 g o t) (hg : g < w4.heap.size) (hb : Below w4.heap.size w4 w') :
    w'.cell? ⟨s6, 0, none⟩ = some (.int .i64 e) ∧ w'.cell? ⟨s6, 1, none⟩ = some (.slice av l.length cv) ∧ w'.cell? ⟨g, o, none⟩ = some (.int .i64 t.cl) ∧ w'.cell? ⟨g, o + 1, none⟩ = some (.int .i64 t.sq) ∧ w'.cell? ⟨g, o + 2, none⟩ = some (.int .i64 t.op) ∧ w'.cell? ⟨g, o + 3, none⟩ = some (.string t.pa) ∧ w'.cell? ⟨g, o + 4, none⟩ = some (.string t.va) ∧ w'.cell? ⟨g, o + 5, none⟩ = some (.int .i64 t.ver) ∧ w'.cell? ⟨g, o + 6, none⟩ = some (.int .i64 t.a) ∧ w'.cell? ⟨g, o + 7, none⟩ = some (.int .i64 t.b) ∧ Below w4.heap.size w4 w' := by
  have hk := h.kept hb
  have hc := hc0.below hg hb
  exact ⟨hk.c0, hk.c1, hc.1, hc.2.1, hc.2.2.1, hc.2.2.2.1, hc.2.2.2.2.1, hc.2.2.2.2.2.1, hc.2.2.2.2.2.2.1, hc.2.2.2.2.2.2.2, hb⟩
theorem VInv.store {w : World} {ep : Int} {ad : Option Addr} {n cap s6 : Nat} {e : Int} {av : Option Addr} {cv : Nat} {l : List Int} {wr : World} (h : VInv w ep ad n cap s6 e av cv l wr) {a5 : Option Addr} {c5 : Nat} {l2 : List Int} (hi : ItF wr (s6 + 1) (.slice a5 l2.length c5) l2) (e' : Int) :
    VInv w ep ad n cap s6 e' a5 c5 l2 ((wr.setCell ⟨s6, 0, none⟩ (.int .i64 e')).setCell ⟨s6, 1, none⟩ (.slice a5 l2.length c5)) := by
  have hc0 := h.c0
  have hc1 := h.c1
  have hf0 := h.f0
  have hf1 := h.f1
  refine ⟨(h.held.set h.up _).set h.up _, h.up, by simpa using h.lt, ?_, ?_, ?_, ?_, ((hi.set (by simp) _).set (by simp) _).it⟩
  · simp [go_sem, hc0, hc1]
  · simp [go_sem, hc0, hc1]
  · simpa [go_sem] using hf0
  · simpa [go_sem] using hf1
set_option maxHeartbeats 4000000 in
theorem valid_near (ep : Int) (ad ac : Option Addr) (cap capc : Nat) (ns : List Int) (ts : List Cm) (w : World) (h : It w (.slice ad ns.length cap) ns) (hc : CRd w ac ts) (hl : ¬ (40 : Int) < ns.length) (hl2 : ¬ (60 : Int) < ts.length) (hv : valB ep ns = true) :
    Calls Try.prog 7 #[cfgV ep ad ns.length cap, .slice ac ts.length capc] w fun e w' => e = .returned (.bool true) ∧ Below w.heap.size w w' := by
  have HS0 := Lib.hid (held_box w ep ad ns.length cap)
  have HH := Lib.hid h
  have HCR := Lib.hid hc
  have t2 : decide ((40 : Int) < ns.length) = false := by simpa using hl
  have t3 : decide ((60 : Int) < ts.length) = false := by simpa using hl2
  have HV := Lib.hid hv
  clear h hc hv
  go_enter Try.func7, Try.ntmps7
  go_wp2_with fail
  refine (works_any _).mono ?_
  rintro e w1 ⟨rfl, hb⟩
  have hn := HS0.out.kept hb
  clear hb HS0
  have HS1 := Lib.hid hn
  have hc1 := hn.cells
  dsimp only [AllC, rowL] at hc1
  clear hn
  go_split_ands
  go_wp2_with fail
  refine (valid_any _ _ _ ns _ (IRow.of_it (HH.out.below HS1.out.below))).mono ?_
  rw [HV.out]
  rintro e w2 ⟨rfl, hb⟩
  have hn := HS1.out.kept hb
  clear hb HS1
  have HS2 := Lib.hid hn
  have hc2 := hn.cells
  dsimp only [AllC, rowL] at hc2
  clear hn
  go_split_ands
  go_wp2_with fail
  refine (cclone_any _ _ _ ns _ (HH.out.below HS2.out.below) (by omega)).mono ?_
  rintro e w3 ⟨v3, he, hi, hb⟩
  subst he
  obtain ⟨a3, c3, rfl, _⟩ := hi.row
  have hn := HS2.out.kept hb
  have hz := hn.size
  have HI : Hid (VInv w ep ad ns.length cap w3.heap.size ep a3 c3 ns (w3.alloc (.cells #[.int .i64 ep, .slice a3 ns.length c3] 24))) :=
    Lib.hid ⟨hn.alloc _, hz, by simp, by simp [go_sem], by simp [go_sem], by simp [go_sem], by simp [go_sem], hi.alloc _⟩
  clear hb HS2 hn hi
  go_wp2_with fail
  go_loopw [7, 8, 10] (fun x i y wr => ∃ (k st : Nat) (l : List Int) (av : Option Addr) (cv : Nat), k ≤ ts.length ∧ st ≤ k ∧ i = .int .i64 k ∧ x = .int .i64 st ∧ Hid (valB (ep + st) l = true) ∧ Hid (VInv w ep ad ns.length cap w3.heap.size (ep + st) av cv l wr)) (fun _ i _ _ => ts.length - (intOf i).toNat)
  case atStart => exact ⟨0, 0, ns, a3, c3, Nat.zero_le _, Nat.zero_le _, rfl, rfl, by simpa using HV, by simpa using HI⟩
  case round =>
    clear HI
    obtain ⟨k, st, l, av, cv, hk, hst, rfl, rfl, hva, hI⟩ := hrel
    obtain ⟨w4, rfl⟩ : ∃ w4 : World, w4 = wr := ⟨_, rfl⟩
    have hcs := hI.out.cells
    obtain ⟨s6, hs6⟩ : ∃ s6, w3.heap.size = s6 := ⟨_, rfl⟩
    rw [hs6] at hcs hI
    have HS6 := Lib.hid hs6
    have hup := hI.out.up
    have hVal : Val (ep + st) l := by have := hva.out; simpa [valB] using this
    have hvl := HV.out
    have hVal0 : Val ep ns := by simpa [valB] using hvl
    have e0 : 0 ≤ ep := hVal0.1
    have e1 : ep + st ≤ 1048576 := hVal.2.1
    have l1 : 1 ≤ l.length := hVal.2.2.2.2.1
    have l7 : l.length ≤ 7 := hVal.2.2.2.2.2
    clear hvl hVal0
    have HVl := Lib.hid hVal
    clear hVal
    go_split_ands
    by_cases hlt : k < ts.length
    · rcases HCR.out.2 with h0 | ⟨g, off, rfl, hg, hcm⟩
      · rw [h0] at hlt; simp at hlt
      have hcm1 := (hcm k hlt).below hg hI.out.held.below
      obtain ⟨t, ht⟩ : ∃ t, ts.getD k default = t := ⟨_, rfl⟩
      rw [ht] at hcm1
      have HCM := Lib.hid hcm1
      obtain ⟨m0, m1, m2, m3, m4, m5, m6, m7⟩ := hcm1
      clear hcm ht
      rw [HS6.out]
      have hg4 : g < w4.heap.size := by have := hI.out.held.below.size; omega
      have hs64 := hI.out.lt
      by_cases hx : (chg (ep + st) l t.op t.a t.b).err = 0
      · have hv1 := chg_val hx
        have hd1 := chg_does hx
        have hf1 := chg_fol hx
        have he1 := hv1.2.2.2
        obtain ⟨l2, hl2⟩ : ∃ l2, (chg (ep + st) l t.op t.a t.b).ns = l2 := ⟨_, rfl⟩
        have hC : chg (ep + st) l t.op t.a t.b = ⟨0, ep + st + 1, l2⟩ := by
          cases hc : chg (ep + st) l t.op t.a t.b with
          | mk e q n => rw [hc] at hx he1 hl2; simp only at hx he1 hl2; rw [hx, he1, hl2]
        rw [hC] at hv1 hf1
        simp only at hv1 hf1
        have HC := Lib.hid hC
        have v2 : valB (ep + st + 1) l2 = true := by simpa [valB] using hv1.2.2.1
        have HV2 := Lib.hid v2
        have HF2 := Lib.hid hf1
        have HS2 := Lib.hid (sameB_no (ep := ep + st) (l := l) (m := l2) (e := ep + st + 1) (by omega))
        have e3 : ep + st < 1048576 := hv1.2.1
        clear hx hv1 hd1 hf1 he1 hl2 hC v2
        go_wp2_with fail
        go_region_held3 (fun w' => w'.cell? ⟨s6, 0, none⟩ = some (.int .i64 (ep + st)) ∧ w'.cell? ⟨s6, 1, none⟩ = some (.slice av l.length cv) ∧ w'.cell? ⟨g, off + k * 8, none⟩ = some (.int .i64 t.cl) ∧ w'.cell? ⟨g, off + k * 8 + 1, none⟩ = some (.int .i64 t.sq) ∧ w'.cell? ⟨g, off + k * 8 + 2, none⟩ = some (.int .i64 t.op) ∧ w'.cell? ⟨g, off + k * 8 + 3, none⟩ = some (.string t.pa) ∧ w'.cell? ⟨g, off + k * 8 + 4, none⟩ = some (.string t.va) ∧ w'.cell? ⟨g, off + k * 8 + 5, none⟩ = some (.int .i64 t.ver) ∧ w'.cell? ⟨g, off + k * 8 + 6, none⟩ = some (.int .i64 t.a) ∧ w'.cell? ⟨g, off + k * 8 + 7, none⟩ = some (.int .i64 t.b) ∧ Below w4.heap.size w4 w')
          (first
            | exact keepV hI.out HCM.out hg4 (Below.refl _ _)
            | exact keepV hI.out HCM.out hg4 (Below.refl _ _).drew
            | exact keepV hI.out HCM.out hg4 ((Below.refl _ _).alloc (Nat.le_refl _) _)
            | exact keepV hI.out HCM.out hg4 ((Below.refl _ _).alloc (Nat.le_refl _) _).drew
            | exact keepV hI.out HCM.out hg4 (Below.alloc hw45 (Below.size hw45) _)
            | exact keepV hI.out HCM.out hg4 (Below.setCell (Below.setCell hw45 (Nat.le_refl _) _) (Nat.le_refl _) _)
            | (go_split_ands; first
                | exact keepV hI.out HCM.out hg4 (by assumption)
                | exact keepV hI.out HCM.out hg4 (below_self (by assumption) (by assumption))
                | exact keepV hI.out HCM.out hg4 (Below.alloc (by assumption) (Below.size (by assumption)) _)
                | exact keepV hI.out HCM.out hg4 (Below.setCell (Below.setCell (by assumption) (Nat.le_refl _) _) (Nat.le_refl _) _)
                | exact keepV hI.out HCM.out hg4 (Below.setCell (by assumption) (Nat.le_refl _) _)))
          (first
            | (go_at_call 10; go_split_ands; refine (change_any (ep + st) av cv l _ _ _ _ _ _ _ _ _ (hI.out.it.below (by assumption))).mono ?_; rw [HC.out]; rintro e w5 ⟨v5, rfl, hi5, hb5⟩; obtain ⟨a5, c5, rfl, _⟩ := hi5.it.row; have hw45 := below_self (by assumption) hb5; obtain ⟨hcb, hfb⟩ := bcell hb5))
        all_goals
          go_split_ands
          have I5 : ItF w5 (w4.heap.size) (.slice a5 l2.length c5) l2 := hi5.mono (by simp)
          have hlt5 := hw45.size
          first
            | (obtain ⟨s9, hs9⟩ : ∃ s9, w5.heap.size = s9 := ⟨_, rfl⟩
               obtain ⟨W, hW⟩ : ∃ W, w5.alloc (Obj.cells #[Value.int IntKind.i64 (ep + st + 1), Value.slice a5 l2.length c5] 24) = W := ⟨_, rfl⟩
               have hd : W.cell? ⟨s9, 0, none⟩ = some (.int .i64 (ep + st + 1)) ∧ W.cell? ⟨s9, 1, none⟩ = some (.slice a5 l2.length c5) ∧ s9 < W.heap.size ∧ ItF W (s6 + 1) (.slice a5 l2.length c5) l2 ∧ Below w4.heap.size w4 W := by
                 rw [← hW, ← hs9]
                 exact ⟨by simp [go_sem], by simp [go_sem], by simp, (I5.below ((Below.refl _ _).alloc (Nat.le_refl _) _)).mono (by omega), Below.alloc hw45 hw45.size _⟩
               rw [hW, hs9])
            | (obtain ⟨s9, hs9⟩ : ∃ s9, w4.heap.size = s9 := ⟨_, rfl⟩
               obtain ⟨W, hW⟩ : ∃ W, (w5.setCell ⟨w4.heap.size, 0, none⟩ (Value.int IntKind.i64 (ep + st + 1))).setCell ⟨w4.heap.size, 1, none⟩ (Value.slice a5 l2.length c5) = W := ⟨_, rfl⟩
               have hd : W.cell? ⟨s9, 0, none⟩ = some (.int .i64 (ep + st + 1)) ∧ W.cell? ⟨s9, 1, none⟩ = some (.slice a5 l2.length c5) ∧ s9 < W.heap.size ∧ ItF W (s6 + 1) (.slice a5 l2.length c5) l2 ∧ Below w4.heap.size w4 W := by
                 have e0 : w5.cell? ⟨w4.heap.size, 0, none⟩ = some (.int .i64 0) := (hcb _ _ (by simp)).trans (by simp [go_sem])
                 have e1 : w5.cell? ⟨w4.heap.size, 1, none⟩ = some (.slice none 0 0) := (hcb _ _ (by simp)).trans (by simp [go_sem])
                 have hz5 : w4.heap.size < w5.heap.size := by have := hb5.size; simp at this; omega
                 have J5 : ItF w5 (w4.heap.size + 1) (.slice a5 l2.length c5) l2 := hi5.mono (by simp)
                 rw [← hW, ← hs9]
                 exact ⟨by simp [go_sem, e0, e1], by simp [go_sem, e0, e1], by simpa using hz5, ((J5.set (by simp) _).set (by simp) _).mono (by omega), (hw45.setCell (Nat.le_refl _) _).setCell (Nat.le_refl _) _⟩
               rw [hW, hs9])
          obtain ⟨hd0, hd1, hd2, hd3, hd4⟩ := hd
          have HD3 := Lib.hid hd3
          have HI9 := Lib.hid (hI.out.kept hd4)
          have hcs9 := HI9.out.cells
          have HW9 := Lib.hid hd4
          clear hs9 hW hd3 hd4 I5 hlt5 hi5 hb5 hw45 hcb hfb
          go_split_ands
          go_wp2_with fail
          refine (valid_any _ _ _ l2 _ (IRow.of_it HD3.out.it)).mono ?_
          rw [HV2.out]
          rintro e w6 ⟨rfl, hb⟩
          have n60 := (hb.cell (p := ⟨s9, 0, none⟩) hd2).trans hd0
          have n61 := (hb.cell (p := ⟨s9, 1, none⟩) hd2).trans hd1
          have n62 : s9 < w6.heap.size := by have := hb.size; omega
          have HI6 := Lib.hid (HI9.out.kept hb)
          have HD6 := Lib.hid (HD3.out.below hb)
          clear hb HI9 HD3 hd0 hd1 hd2
          have HI9 := HI6
          have HD3 := HD6
          have hd0 := n60
          have hd1 := n61
          have hd2 := n62
          clear HI6 HD6 n60 n61 n62
          have hcs6 := HI9.out.cells
          go_split_ands
          go_wp2_with fail
          refine (follows_any _ _ _ _ _ _ l l2 _ (IRow.of_it HI9.out.it) (IRow.of_it HD3.out.it)).mono ?_
          rw [HF2.out]
          rintro e w7 ⟨rfl, hb⟩
          have n70 := (hb.cell (p := ⟨s9, 0, none⟩) hd2).trans hd0
          have n71 := (hb.cell (p := ⟨s9, 1, none⟩) hd2).trans hd1
          have n72 : s9 < w7.heap.size := by have := hb.size; omega
          have HI7 := Lib.hid (HI9.out.kept hb)
          have HD7 := Lib.hid (HD3.out.below hb)
          clear hb HI9 HD3 hd0 hd1 hd2
          have HI9 := HI7
          have HD3 := HD7
          have hd0 := n70
          have hd1 := n71
          have hd2 := n72
          clear HI7 HD7 n70 n71 n72
          have hcs7 := HI9.out.cells
          go_split_ands
          go_wp2_with fail
          refine (same_any _ _ _ _ _ _ l l2 _ (IRow.of_it HI9.out.it) (IRow.of_it HD3.out.it)).mono ?_
          rw [HS2.out]
          rintro e w8 ⟨rfl, hb⟩
          have n80 := (hb.cell (p := ⟨s9, 0, none⟩) hd2).trans hd0
          have n81 := (hb.cell (p := ⟨s9, 1, none⟩) hd2).trans hd1
          have n82 : s9 < w8.heap.size := by have := hb.size; omega
          have HI8 := Lib.hid (HI9.out.kept hb)
          have HD8 := Lib.hid (HD3.out.below hb)
          clear hb HI9 HD3 hd0 hd1 hd2
          have HI9 := HI8
          have HD3 := HD8
          have hd0 := n80
          have hd1 := n81
          have hd2 := n82
          clear HI8 HD8 n80 n81 n82
          have hcs8 := HI9.out.cells
          go_split_ands
          have HST := Lib.hid (HI9.out.store HD3.out (ep + st + 1))
          clear HI9 HD3
          go_wp2
          go_roundw
          case rel => exact ⟨k + 1, st + 1, l2, a5, c5, by omega, by omega, by go_num, by go_num, by rw [show (ep + ((st + 1 : Nat) : Int)) = ep + st + 1 from by omega]; exact HV2, by rw [show (ep + ((st + 1 : Nat) : Int)) = ep + st + 1 from by omega]; exact HST⟩
          case measure => simp [intOf]; omega
      · obtain ⟨C, hC⟩ : ∃ C, chg (ep + st) l t.op t.a t.b = C := ⟨_, rfl⟩
        rw [hC] at hx
        have HC := Lib.hid hC
        have tx : (C.err != 0) = true := by simpa using hx
        clear hx hC
        go_wp2_with fail
        go_region_held3 (fun w' => w'.cell? ⟨s6, 0, none⟩ = some (.int .i64 (ep + st)) ∧ w'.cell? ⟨s6, 1, none⟩ = some (.slice av l.length cv) ∧ w'.cell? ⟨g, off + k * 8, none⟩ = some (.int .i64 t.cl) ∧ w'.cell? ⟨g, off + k * 8 + 1, none⟩ = some (.int .i64 t.sq) ∧ w'.cell? ⟨g, off + k * 8 + 2, none⟩ = some (.int .i64 t.op) ∧ w'.cell? ⟨g, off + k * 8 + 3, none⟩ = some (.string t.pa) ∧ w'.cell? ⟨g, off + k * 8 + 4, none⟩ = some (.string t.va) ∧ w'.cell? ⟨g, off + k * 8 + 5, none⟩ = some (.int .i64 t.ver) ∧ w'.cell? ⟨g, off + k * 8 + 6, none⟩ = some (.int .i64 t.a) ∧ w'.cell? ⟨g, off + k * 8 + 7, none⟩ = some (.int .i64 t.b) ∧ Below w4.heap.size w4 w')
          (first
            | exact keepV hI.out HCM.out hg4 (Below.refl _ _)
            | exact keepV hI.out HCM.out hg4 (Below.refl _ _).drew
            | exact keepV hI.out HCM.out hg4 ((Below.refl _ _).alloc (Nat.le_refl _) _)
            | exact keepV hI.out HCM.out hg4 ((Below.refl _ _).alloc (Nat.le_refl _) _).drew
            | exact keepV hI.out HCM.out hg4 (Below.alloc hw45 (Below.size hw45) _)
            | exact keepV hI.out HCM.out hg4 (Below.setCell (Below.setCell hw45 (Nat.le_refl _) _) (Nat.le_refl _) _)
            | (go_split_ands; first
                | exact keepV hI.out HCM.out hg4 (by assumption)
                | exact keepV hI.out HCM.out hg4 (below_self (by assumption) (by assumption))
                | exact keepV hI.out HCM.out hg4 (Below.alloc (by assumption) (Below.size (by assumption)) _)
                | exact keepV hI.out HCM.out hg4 (Below.setCell (Below.setCell (by assumption) (Nat.le_refl _) _) (Nat.le_refl _) _)
                | exact keepV hI.out HCM.out hg4 (Below.setCell (by assumption) (Nat.le_refl _) _)))
          (first
            | (go_at_call 10; go_split_ands; refine (change_any (ep + st) av cv l _ _ _ _ _ _ _ _ _ (hI.out.it.below (by assumption))).mono ?_; rw [HC.out]; rintro e w5 ⟨v5, rfl, hi5, hb5⟩; obtain ⟨a5, c5, rfl, _⟩ := hi5.it.row; have hw45 := below_self (by assumption) hb5; obtain ⟨hcb, hfb⟩ := bcell hb5))
        all_goals
          go_split_ands
          first
            | (obtain ⟨W, hW⟩ : ∃ W, w5.alloc (Obj.cells #[Value.int IntKind.i64 C.ep, Value.slice a5 C.ns.length c5] 24) = W := ⟨_, rfl⟩
               have hd : Below w4.heap.size w4 W := by rw [← hW]; exact Below.alloc hw45 hw45.size _
               rw [hW])
            | (obtain ⟨W, hW⟩ : ∃ W, (w5.setCell ⟨w4.heap.size, 0, none⟩ (Value.int IntKind.i64 C.ep)).setCell ⟨w4.heap.size, 1, none⟩ (Value.slice a5 C.ns.length c5) = W := ⟨_, rfl⟩
               have hd : Below w4.heap.size w4 W := by rw [← hW]; exact (hw45.setCell (Nat.le_refl _) _).setCell (Nat.le_refl _) _
               rw [hW])
          have HI9 := Lib.hid (hI.out.kept hd)
          clear hW hd hi5 hb5 hw45 hcb hfb
          go_split_ands
          go_wp2
          go_roundw
          case rel => exact ⟨k + 1, st, l, av, cv, by omega, by omega, by go_num, rfl, hva, HI9⟩
          case measure => simp [intOf]; omega
    · obtain rfl : k = ts.length := by omega
      have u1 : (ep + (st : Int) == ep + (st : Int)) = true := by simp
      have u2 : (1 : Int) ≤ (l.length : Int) := by omega
      have u3 : (l.length : Int) ≤ 7 := by omega
      have HW := Lib.hid hI.out.held.below
      rw [HS6.out]
      go_wp2
      go_ret
      exact ⟨rfl, HW.out⟩
theorem valid_law (ep : Int) (ad ac : Option Addr) (cap capc : Nat) (ns : List Int) (ts : List Cm) (w : World) (h : It w (.slice ad ns.length cap) ns) (hc : CRd w ac ts) :
    Calls Try.prog 7 #[cfgV ep ad ns.length cap, .slice ac ts.length capc] w fun e w' => e = .returned (.bool true) ∧ Below w.heap.size w w' := by
  by_cases hf : (40 : Int) < ns.length ∨ (60 : Int) < ts.length
  · exact valid_far ep ad ac cap capc ns ts w h hc hf
  have hl : ¬ (40 : Int) < ns.length := fun e => hf (.inl e)
  have hl2 : ¬ (60 : Int) < ts.length := fun e => hf (.inr e)
  cases hv : valB ep ns
  · exact valid_not ep ad ac cap capc ns ts w h hc hl hl2 hv
  · exact valid_near ep ad ac cap capc ns ts w h hc hl hl2 hv
end Go.Proofs.Ytacjmcjmenbekaa
