/-
  Texts put together: CdE, CdF.
-/
import Derived.Test.YtllcmapgigfgoaaCd6
import Derived.IntWalk
import Derived.Deep.QuietTactic
import Derived.Test.YtllcmapgigfgoaaCd8
namespace Go.Proofs.Ytllcmapgigfgoaa
open Go.RowKit
set_option linter.unusedSimpArgs false
set_option linter.unusedVariables false

theorem below_dqC {B : Nat} {a w : World} (h : Below B a w) (q : Nat) : Below B a (w.drewN q) := ⟨h.os, h.tape, h.output, h.size, h.block⟩
def szE (x : Ent) : Nat := x.1.size + x.2.1.size
def szT (l : List ByteArray) : Nat := (l.map (·.size)).sum
def szS (x : Ses) : Nat := x.2.2.2.1.size + x.2.2.2.2.2.length + szT x.2.2.2.2.2
def szEs (l : List Ent) : Nat := (l.map szE).sum
def szSs (l : List Ses) : Nat := (l.map szS).sum
/-- What can be written is so small. -/
structure Sml (m1 : Nat) (l2 : List Ent) (l3 : List Ses) : Prop where
  h1 : m1 ≤ 1024
  h2 : l2.length ≤ 1024
  h3 : l3.length ≤ 1024
  e2 : ∀ x ∈ l2, x.1.size ≤ 4096 ∧ x.2.1.size ≤ 4096
  e3 : ∀ x ∈ l3, x.2.2.2.1.size ≤ 4096 ∧ x.2.2.2.2.2.length ≤ 1024 ∧ ∀ t ∈ x.2.2.2.2.2, t.size ≤ 4096
theorem sum_le {α : Type} (f : α → Nat) (M : Nat) : ∀ (l : List α), (∀ x ∈ l, f x ≤ M) → (l.map f).sum ≤ l.length * M
  | [], _ => by simp
  | x :: l, h => by
    have h1 := sum_le f M l (fun y hy => h y (List.mem_cons_of_mem _ hy))
    have h2 := h x (List.mem_cons_self ..)
    simp only [List.map_cons, List.sum_cons, List.length_cons, Nat.add_mul]
    omega
theorem sum_take {α : Type} (f : α → Nat) (l : List α) (k : Nat) (hk : k < l.length) : ((l.take (k + 1)).map f).sum = ((l.take k).map f).sum + f l[k] := by
  rw [List.take_succ_eq_append_getElem hk, List.map_append, List.sum_append]
  simp
theorem Sml.en {m1 : Nat} {l2 : List Ent} {l3 : List Ses} (h : Sml m1 l2 l3) (k : Nat) : szEs (l2.take k) ≤ 8388608 := by
  have h1 := sum_le szE 8192 (l2.take k) (fun x hx => by have := h.e2 x (List.mem_of_mem_take hx); unfold szE; omega)
  have h2 : (l2.take k).length ≤ 1024 := by rw [List.length_take]; have := h.h2; omega
  have h3 := Nat.mul_le_mul_right 8192 h2
  unfold szEs
  omega
theorem szT_le {l : List ByteArray} (h : ∀ t ∈ l, t.size ≤ 4096) (hl : l.length ≤ 1024) (k : Nat) : szT (l.take k) ≤ 4194304 := by
  have h1 := sum_le (·.size) 4096 (l.take k) (fun x hx => h x (List.mem_of_mem_take hx))
  have h2 : (l.take k).length ≤ 1024 := by rw [List.length_take]; omega
  have h3 := Nat.mul_le_mul_right 4096 h2
  unfold szT
  omega
theorem Sml.se {m1 : Nat} {l2 : List Ent} {l3 : List Ses} (h : Sml m1 l2 l3) (k : Nat) : szSs (l3.take k) ≤ 4500000000 := by
  have h1 := sum_le szS 4200000 (l3.take k) (fun x hx => by
    have := h.e3 x (List.mem_of_mem_take hx)
    have h4 := szT_le this.2.2 this.2.1 x.2.2.2.2.2.length
    rw [List.take_length] at h4
    unfold szS
    omega)
  have h2 : (l3.take k).length ≤ 1024 := by rw [List.length_take]; have := h.h3; omega
  have h3 := Nat.mul_le_mul_right 4200000 h2
  unfold szSs
  omega
def FsP (m1 : Nat) (l2 : List Ent) (l3 : List Ses) (w : World) (e : Ending) (w' : World) : Prop := ∃ R : Bool, Hid (e = .returned (.bool R)) ∧ (R = true → Sml m1 l2 l3 → m1 + l2.length + l3.length + szEs l2 + szSs l3 < 3000) ∧ Below w.heap.size w w'
set_option maxRecDepth 100000 in
set_option maxHeartbeats 16000000 in
/-- Loops two and three, behind the first. -/
theorem fsnap_any (n0 : Int) (a1 : Option Addr) (m1 c1 : Nat) (a2 : Option Addr) (m2 c2 : Nat) (a3 : Option Addr) (m3 c3 : Nat) (rs2 : List (Cls 3)) (l2 : List Ent) (rs3 : List (Cls 6)) (l3 : List Ses) (W w : World) (hW : Below W.heap.size W w) (hm1 : m1 ≤ 9223372036854775807) (h2 : RowIs KE enS W (.slice a2 m2 c2) rs2 l2) (h3 : RowIs KZ seS W (.slice a3 m3 c3) rs3 l3) :
    Calls Try.prog 25 #[.agg #[.int .i64 n0, .slice a1 m1 c1, .slice a2 m2 c2, .slice a3 m3 c3]] w (FsP m1 l2 l3 w) := by
  have e2 : m2 = l2.length := by
    obtain ⟨_, _, e⟩ := h2.rd.slice
    simp only [Value.slice.injEq] at e
    rw [← h2.len]
    exact e.2.1
  have e3 : m3 = l3.length := by
    obtain ⟨_, _, e⟩ := h3.rd.slice
    simp only [Value.slice.injEq] at e
    rw [← h3.len]
    exact e.2.1
  have f2 : m2 ≤ 9223372036854775807 := by have q1 := h2.rd.len; have q2 := h2.len; unfold maxLen at q1; omega
  have f3 : m3 ≤ 9223372036854775807 := by have q1 := h3.rd.len; have q2 := h3.len; unfold maxLen at q1; omega
  have f1' : (m1 : Int) ≤ 9223372036854775807 := by omega
  have f2' : (m2 : Int) ≤ 9223372036854775807 := by omega
  have f3' : (m3 : Int) ≤ 9223372036854775807 := by omega
  have HL2 := Lib.hid e2
  have HL3 := Lib.hid e3
  have HBW := Lib.hid hW
  have HWl : Hid (W.heap.size ≤ w.heap.size) := Lib.hid hW.size
  have H2 := Lib.hid h2
  have H3 := Lib.hid h3
  have d2 : (w.alloc (.cells #[.int .i64 n0, .slice a1 m1 c1, .slice a2 m2 c2, .slice a3 m3 c3] 42)).cell? ⟨w.heap.size, 2, none⟩ = some (.slice a2 m2 c2) := (Bk.new w 42 [.int .i64 n0, .slice a1 m1 c1, .slice a2 m2 c2, .slice a3 m3 c3]).cell 2
  have d3 : (w.alloc (.cells #[.int .i64 n0, .slice a1 m1 c1, .slice a2 m2 c2, .slice a3 m3 c3] 42)).cell? ⟨w.heap.size, 3, none⟩ = some (.slice a3 m3 c3) := (Bk.new w 42 [.int .i64 n0, .slice a1 m1 c1, .slice a2 m2 c2, .slice a3 m3 c3]).cell 3
  have D2 := Lib.hid d2
  have D3 := Lib.hid d3
  have HB0 : Hid (Below w.heap.size w (w.alloc (.cells #[.int .i64 n0, .slice a1 m1 c1, .slice a2 m2 c2, .slice a3 m3 c3] 42))) := Lib.hid ((Below.refl _ _).alloc (Nat.le_refl _) _)
  have HXs : Hid (w.heap.size < (w.alloc (.cells #[.int .i64 n0, .slice a1 m1 c1, .slice a2 m2 c2, .slice a3 m3 c3] 42)).heap.size) := Lib.hid (by simp)
  clear e2 e3 hW h2 h3 d2 d3
  go_enter Try.func25, Try.ntmps25
  go_wp2_with fail
  generalize w.alloc (.cells #[.int .i64 n0, .slice a1 m1 c1, .slice a2 m2 c2, .slice a3 m3 c3] 42) = X at *
  obtain ⟨nz, hnz⟩ : ∃ z : Int, wrap64 (wrap64 ((m1 : Int) + (m2 : Int)) + (m3 : Int)) = z := ⟨_, rfl⟩
  rw [hnz]
  have HNZ : Hid (Sml m1 l2 l3 → nz = ((m1 + m2 + m3 : Nat) : Int)) := Lib.hid (fun p => by
    have := p.h1
    have := p.h2
    have := p.h3
    have := HL2.out
    have := HL3.out
    rw [← hnz, IntWalk.wrap64_in ((m1 : Int) + (m2 : Int)) (by omega), IntWalk.wrap64_in _ (by omega)]
    omega)
  clear hnz
  go_loopw [3, 4] (fun n i wr => ∃ (k : Nat) (nn : Int), k ≤ m2 ∧ n = .int .i64 nn ∧ i = .int .i64 k ∧ Hid (Below X.heap.size X wr) ∧ Hid (Sml m1 l2 l3 → k ≤ 1024 → nn = ((m1 + m2 + m3 + szEs (l2.take k) : Nat) : Int))) (fun _ i _ => m2 - (intOf i).toNat)
  case atStart => exact ⟨0, nz, Nat.zero_le _, rfl, rfl, Lib.hid (Below.refl _ _), Lib.hid (fun p _ => by have := HNZ.out p; simpa [szEs] using this)⟩
  case round =>
    obtain ⟨k, nn, hk, rfl, rfl, hB, HN⟩ := hrel
    clear HNZ
    have x2 := (hB.out.cell (p := ⟨w.heap.size, 2, none⟩) HXs.out).trans D2.out
    have x3 := (hB.out.cell (p := ⟨w.heap.size, 3, none⟩) HXs.out).trans D3.out
    by_cases hlt : k < m2 ∧ k < 3000
    · have hl1a : k < m2 := by omega
      have hl1b : (k : Int) < (m2 : Int) := by omega
      have hl1c : decide (k < m2) = true := decide_eq_true (by omega)
      have hl1d : decide ((k : Int) < (m2 : Int)) = true := decide_eq_true (by omega)
      have hl2a : k < 3000 := by omega
      have hl2b : (k : Int) < 3000 := by omega
      have hl2c : decide (k < 3000) = true := decide_eq_true (by omega)
      have hl2d : decide ((k : Int) < 3000) = true := decide_eq_true (by omega)
      obtain ⟨hl, g, off, cs, ha, hg, hcs, hcel⟩ := H2.out.el2 rfl (HBW.out.trans ((HB0.out.trans (hB.out.mono (Nat.le_of_lt HXs.out))).mono HWl.out)) k hlt.1
      subst ha
      obtain ⟨x, hx⟩ : ∃ x, l2[k] = x := ⟨_, rfl⟩
      rw [hx] at hcs
      have HX := Lib.hid hx
      clear hx
      obtain ⟨y0, y1, y2⟩ := x
      have hcs0 : cs = [.string y0, .string y1, .int .i64 y2] := hcs.1
      have hs0 : y0.size ≤ 9223372036854775807 := by have := hcs.2.1; unfold maxLen at this; simp only at this; omega
      have hs1 : y1.size ≤ 9223372036854775807 := by have := hcs.2.2; unfold maxLen at this; simp only at this; omega
      have hs0' : (y0.size : Int) ≤ 9223372036854775807 := by omega
      have hs1' : (y1.size : Int) ≤ 9223372036854775807 := by omega
      subst hcs0
      have y0c : wr.cell? ⟨g, off + k * 3, none⟩ = some (.string y0) := hcel 0 _ rfl
      have y1c : wr.cell? ⟨g, off + k * 3 + 1, none⟩ = some (.string y1) := hcel 1 _ rfl
      have HLt := Lib.hid hlt
      clear hcel hg hcs hlt
      go_wp2_with fail
      go_quiet (fail)
      generalize hw3 : World.drewN wr _ = w3 at *
      have HB3 : Hid (Below X.heap.size X w3) := Lib.hid (by rw [← hw3]; exact below_dqC hB.out _)
      clear hw3 x2 x3 y0c y1c hB
      go_wp2_with fail
      go_roundw
      case rel =>
        refine ⟨k + 1, _, by omega, rfl, by go_num, HB3, Lib.hid (fun p hk1 => ?_)⟩
        have h1 := HN.out p (by omega)
        have h2 := p.e2 _ (HX.out ▸ List.getElem_mem hl)
        have h3 := p.en k
        have h7 := sum_take szE l2 k hl
        rw [HX.out] at h7
        have h8 := HL2.out
        have h9 := HL3.out
        have := p.h1
        have := p.h2
        have := p.h3
        try simp only at h2
        rw [IntWalk.wrap64_in (nn + (y0.size : Int)) (by omega), IntWalk.wrap64_in _ (by omega)]
        have h10 : szE (y0, y1, y2) = y0.size + y1.size := rfl
        unfold szEs at h1 h3 ⊢
        rw [h7]
        omega
      case measure => simp [intOf]; omega
    · by_cases hkN : k < m2
      · have hl1a : k < m2 := by omega
        have hl1b : (k : Int) < (m2 : Int) := by omega
        have hl1c : decide (k < m2) = true := decide_eq_true (by omega)
        have hl1d : decide ((k : Int) < (m2 : Int)) = true := decide_eq_true (by omega)
        have hl2a : ¬ k < 3000 := by omega
        have hl2b : ¬ (k : Int) < 3000 := by omega
        have hl2c : decide (k < 3000) = false := decide_eq_false (by omega)
        have hl2d : decide ((k : Int) < 3000) = false := decide_eq_false (by omega)
        have HN1 : Hid (Sml m1 l2 l3 → nn = ((m1 + m2 + m3 + szEs l2 : Nat) : Int)) := Lib.hid (fun p => by
          have h8 := HL2.out
          have := p.h2
          omega)
        obtain ⟨nn0, hnn0⟩ : ∃ z, nn = z := ⟨_, rfl⟩
        rw [hnn0] at HN1 ⊢
        have HB1 := hB
        clear hlt hk hkN HN hnn0 hB
        go_wp2_with fail
        go_loopw [3, 5] (fun n i wr => ∃ (k : Nat) (nn : Int), k ≤ m3 ∧ n = .int .i64 nn ∧ i = .int .i64 k ∧ Hid (Below X.heap.size X wr) ∧ Hid (Sml m1 l2 l3 → k ≤ 1024 → nn = ((m1 + m2 + m3 + szEs l2 + szSs (l3.take k) : Nat) : Int))) (fun _ i _ => m3 - (intOf i).toNat)
        case atStart => exact ⟨0, nn0, Nat.zero_le _, rfl, rfl, HB1, Lib.hid (fun p _ => by have := HN1.out p; simpa [szSs] using this)⟩
        case round =>
          obtain ⟨k, nn, hk, rfl, rfl, hB, HN⟩ := hrel
          clear HB1 HN1
          have x2 := (hB.out.cell (p := ⟨w.heap.size, 2, none⟩) HXs.out).trans D2.out
          have x3 := (hB.out.cell (p := ⟨w.heap.size, 3, none⟩) HXs.out).trans D3.out
          by_cases hlt : k < m3 ∧ k < 3000
          · have hl1a : k < m3 := by omega
            have hl1b : (k : Int) < (m3 : Int) := by omega
            have hl1c : decide (k < m3) = true := decide_eq_true (by omega)
            have hl1d : decide ((k : Int) < (m3 : Int)) = true := decide_eq_true (by omega)
            have hl2a : k < 3000 := by omega
            have hl2b : (k : Int) < 3000 := by omega
            have hl2c : decide (k < 3000) = true := decide_eq_true (by omega)
            have hl2d : decide ((k : Int) < 3000) = true := decide_eq_true (by omega)
            obtain ⟨hl, g, off, cs, ha, hg, hcs, hcel⟩ := H3.out.el2 rfl (HBW.out.trans ((HB0.out.trans (hB.out.mono (Nat.le_of_lt HXs.out))).mono HWl.out)) k hlt.1
            subst ha
            obtain ⟨x, hx⟩ : ∃ x, l3[k] = x := ⟨_, rfl⟩
            rw [hx] at hcs
            have HX := Lib.hid hx
            clear hx
            obtain ⟨y0, y1, y2, y3, y4, y5⟩ := x
            obtain ⟨vn, rn, hcs0, hs3, hrn⟩ := hcs
            have hcs0 : cs = [.int .i64 y0, .int .i64 y1, .int .i64 y2, .string y3, .int .i64 y4, vn] := hcs0
            have hs3 : y3.size ≤ 9223372036854775807 := by unfold maxLen at hs3; simp only at hs3; omega
            have hs3' : (y3.size : Int) ≤ 9223372036854775807 := by omega
            subst hcs0
            obtain ⟨an, cn, hvn⟩ := hrn.rd.slice
            have hmxn := hrn.rd.len
            have hlnn := hrn.len
            obtain ⟨mn, hnn⟩ : ∃ mn, rn.length = mn := ⟨_, rfl⟩
            rw [hnn] at hvn hmxn hlnn
            subst hvn
            have hmn : (mn : Int) ≤ 9223372036854775807 := by unfold maxLen at hmxn; omega
            have HRN := Lib.hid hrn
            have HLN := Lib.hid hlnn
            clear hrn hnn hmxn hlnn
            have y3c : wr.cell? ⟨g, off + k * 6 + 3, none⟩ = some (.string y3) := hcel 3 _ rfl
            have y5c : wr.cell? ⟨g, off + k * 6 + 5, none⟩ = some (.slice an mn cn) := hcel 5 _ rfl
            have HG := Lib.hid (show g < wr.heap.size from hg)
            have HY5 := Lib.hid y5c
            have HLt := Lib.hid hlt
            have HBr := Lib.hid hB.out
            clear hcel hg hlt hk
            go_wp2_with fail
            go_quiet (fail)
            generalize hw3 : World.drewN wr _ = w3 at *
            have HB3 : Hid (Below X.heap.size X w3) := Lib.hid (by rw [← hw3]; exact below_dqC HBr.out _)
            have HW3 : Hid (Below wr.heap.size wr w3) := Lib.hid (by rw [← hw3]; exact below_dqC (Below.refl _ _) _)
            clear hw3 x2 x3 y3c y5c hB
            go_wp2_with fail
            obtain ⟨nn1, hnn1⟩ : ∃ z : Int, wrap64 (wrap64 (nn + (y3.size : Int)) + (mn : Int)) = z := ⟨_, rfl⟩
            rw [hnn1]
            have HN1 : Hid (Sml m1 l2 l3 → nn1 = ((m1 + m2 + m3 + szEs l2 + szSs (l3.take k) + y3.size + mn : Nat) : Int)) := Lib.hid (fun p => by
              have h1 := HN.out p (by have := p.h3; have := HL3.out; have := HLt.out; omega)
              have h2 := p.e3 _ (HX.out ▸ List.getElem_mem hl)
              have h3 := p.se k
              have h4 := p.en l2.length
              rw [List.take_length] at h4
              have h5 := p.h1
              have h6 := p.h2
              have h7 := p.h3
              have h8 := HL2.out
              have h9 := HL3.out
              have h10 := HLN.out
              try simp only at h2 h10
              rw [← hnn1, IntWalk.wrap64_in (nn + (y3.size : Int)) (by omega), IntWalk.wrap64_in _ (by omega)]
              omega)
            clear hnn1
            go_loopw [3, 6] (fun n i wr2 => ∃ (j : Nat) (nj : Int), j ≤ mn ∧ n = .int .i64 nj ∧ i = .int .i64 j ∧ Hid (Below w3.heap.size w3 wr2) ∧ Hid (Sml m1 l2 l3 → j ≤ 1024 → nj = ((m1 + m2 + m3 + szEs l2 + szSs (l3.take k) + y3.size + mn + szT (y5.take j) : Nat) : Int))) (fun _ i _ => mn - (intOf i).toNat)
            case atStart => exact ⟨0, nn1, Nat.zero_le _, rfl, rfl, Lib.hid (Below.refl _ _), Lib.hid (fun p _ => by have := HN1.out p; simpa [szT] using this)⟩
            case round =>
              obtain ⟨j, nj, hj, rfl, rfl, hB2, HNj⟩ := hrel
              have hBX : Hid (Below X.heap.size X wr) := Lib.hid (HB3.out.trans (hB2.out.mono HB3.out.size))
              have x2 := (hBX.out.cell (p := ⟨w.heap.size, 2, none⟩) HXs.out).trans D2.out
              have x3 := (hBX.out.cell (p := ⟨w.heap.size, 3, none⟩) HXs.out).trans D3.out
              have y5c : wr.cell? ⟨g, off + k * 6 + 5, none⟩ = some (.slice an mn cn) := (hB2.out.cell (p := ⟨g, off + k * 6 + 5, none⟩) (Nat.lt_of_lt_of_le HG.out HW3.out.size)).trans ((HW3.out.cell (p := ⟨g, off + k * 6 + 5, none⟩) HG.out).trans HY5.out)
              have hk3 : k < m3 := HLt.out.1
              have hk3' : (k : Int) < (m3 : Int) := by omega
              by_cases hlj : j < mn ∧ j < 3000
              · have gj1a : j < mn := by omega
                have gj1b : (j : Int) < (mn : Int) := by omega
                have gj1c : decide (j < mn) = true := decide_eq_true (by omega)
                have gj1d : decide ((j : Int) < (mn : Int)) = true := decide_eq_true (by omega)
                have gj2a : j < 3000 := by omega
                have gj2b : (j : Int) < 3000 := by omega
                have gj2c : decide (j < 3000) = true := decide_eq_true (by omega)
                have gj2d : decide ((j : Int) < 3000) = true := decide_eq_true (by omega)
                obtain ⟨hl5, g5, off5, cs5, ha5, hg5, hcs5, hcel5⟩ := HRN.out.el2 rfl (HBW.out.trans ((HB0.out.trans (hBX.out.mono (Nat.le_of_lt HXs.out))).mono HWl.out)) j hlj.1
                subst ha5
                obtain ⟨t, ht⟩ : ∃ t, y5[j] = t := ⟨_, rfl⟩
                rw [ht] at hcs5
                have HT := Lib.hid ht
                have hcs5' : cs5 = [.string t] := hcs5.1
                have hst : t.size ≤ 9223372036854775807 := by have := hcs5.2; unfold maxLen at this; omega
                have hst' : (t.size : Int) ≤ 9223372036854775807 := by omega
                subst hcs5'
                have z0 : wr.cell? ⟨g5, off5 + j, none⟩ = some (.string t) := by have := hcel5 0 _ rfl; simpa [KT, rawK] using this
                clear hcel5 hg5 hcs5 ht
                have HLj := Lib.hid hlj
                go_wp2_with fail
                go_roundw
                case rel =>
                  refine ⟨j + 1, _, by omega, rfl, by go_num, hB2, Lib.hid (fun p hj1 => ?_)⟩
                  have h1 := HNj.out p (by omega)
                  have h2 := p.e3 _ (HX.out ▸ List.getElem_mem hl)
                  have h3 := p.se k
                  have h4 := p.en l2.length
                  rw [List.take_length] at h4
                  try simp only at h2
                  have h5 := szT_le h2.2.2 h2.2.1 j
                  have h6 := h2.2.2 _ (HT.out ▸ List.getElem_mem hl5)
                  have h7 := sum_take (fun t : ByteArray => t.size) y5 j hl5
                  rw [HT.out] at h7
                  have h8 := HL2.out
                  have h9 := HL3.out
                  have := p.h1
                  have := p.h2
                  have := p.h3
                  have h10 := HLN.out
                  try simp only at h10
                  rw [IntWalk.wrap64_in (nj + (t.size : Int)) (by omega)]
                  unfold szT at h1 h5 ⊢
                  rw [h7]
                  omega
                case measure => simp [intOf]; omega
              · by_cases hjN : j < mn
                · have gj1a : j < mn := by omega
                  have gj1b : (j : Int) < (mn : Int) := by omega
                  have gj1c : decide (j < mn) = true := decide_eq_true (by omega)
                  have gj1d : decide ((j : Int) < (mn : Int)) = true := decide_eq_true (by omega)
                  have gj2a : ¬ j < 3000 := by omega
                  have gj2b : ¬ (j : Int) < 3000 := by omega
                  have gj2c : decide (j < 3000) = false := decide_eq_false (by omega)
                  have gj2d : decide ((j : Int) < 3000) = false := decide_eq_false (by omega)
                  have HKj : Hid (3000 ≤ j ∧ j ≤ mn) := Lib.hid (by omega)
                  clear hlj hj hjN
                  go_wp2_with fail
                  go_roundw
                  case rel =>
                    refine ⟨k + 1, nj, by omega, rfl, by go_num, hBX, Lib.hid (fun p hk1 => ?_)⟩
                    have h2 := p.e3 _ (HX.out ▸ List.getElem_mem hl)
                    try simp only at h2
                    have h10 := HLN.out
                    try simp only at h10
                    have hK := HKj.out
                    have h1 := HNj.out p (by omega)
                    rw [List.take_of_length_le (l := y5) (by omega)] at h1
                    have h7 := sum_take szS l3 k hl
                    rw [HX.out] at h7
                    have h11 : szS (y0, y1, y2, y3, y4, y5) = y3.size + y5.length + szT y5 := rfl
                    unfold szSs at h1 ⊢
                    rw [h7]
                    omega
                  case measure => simp [intOf]; omega
                · have hq : mn = j := by omega
                  clear hlj hj hjN
                  subst hq
                  have gj1 : decide ((mn : Int) < (mn : Int)) = false := by simp
                  have HKj : Hid (mn ≤ mn ∧ True) := Lib.hid ⟨Nat.le_refl _, trivial⟩
                  go_wp2_with fail
                  go_roundw
                  case rel =>
                    refine ⟨k + 1, nj, by omega, rfl, by go_num, hBX, Lib.hid (fun p hk1 => ?_)⟩
                    have h2 := p.e3 _ (HX.out ▸ List.getElem_mem hl)
                    try simp only at h2
                    have h10 := HLN.out
                    try simp only at h10
                    have hK := HKj.out
                    have h1 := HNj.out p (by omega)
                    rw [List.take_of_length_le (l := y5) (by omega)] at h1
                    have h7 := sum_take szS l3 k hl
                    rw [HX.out] at h7
                    have h11 : szS (y0, y1, y2, y3, y4, y5) = y3.size + y5.length + szT y5 := rfl
                    unfold szSs at h1 ⊢
                    rw [h7]
                    omega
                  case measure => simp [intOf]; omega
          · by_cases hkN : k < m3
            · have hl1a : k < m3 := by omega
              have hl1b : (k : Int) < (m3 : Int) := by omega
              have hl1c : decide (k < m3) = true := decide_eq_true (by omega)
              have hl1d : decide ((k : Int) < (m3 : Int)) = true := decide_eq_true (by omega)
              have hl2a : ¬ k < 3000 := by omega
              have hl2b : ¬ (k : Int) < 3000 := by omega
              have hl2c : decide (k < 3000) = false := decide_eq_false (by omega)
              have hl2d : decide ((k : Int) < 3000) = false := decide_eq_false (by omega)
              have HK : Hid (3000 ≤ k ∧ k ≤ m3) := Lib.hid (by omega)
              clear hlt hk hkN
              by_cases q3 : nn < 3000
              · have g3 : decide (nn < 3000) = true := decide_eq_true q3
                have HQ3 := Lib.hid q3
                clear q3
                go_wp2_with fail
                go_ret
                refine ⟨true, rfl, fun _ p => ?_, HB0.out.trans (hB.out.mono (Nat.le_of_lt HXs.out))⟩
                have hK := HK.out
                have := p.h3
                have h8 := HL2.out
                have h9 := HL3.out
                have h1 := HN.out p (by omega)
                rw [List.take_of_length_le (by omega)] at h1
                have h2 := HQ3.out
                omega
              · have g3 : decide (nn < 3000) = false := decide_eq_false q3
                clear q3
                go_wp2_with fail
                go_ret
                exact ⟨false, rfl, (fun q => by cases q), HB0.out.trans (hB.out.mono (Nat.le_of_lt HXs.out))⟩
            · have hq : m3 = k := by omega
              clear hlt hk hkN
              subst hq
              have hl1 : decide ((m3 : Int) < (m3 : Int)) = false := by simp
              have HK : Hid (m3 ≤ m3 ∧ True) := Lib.hid ⟨Nat.le_refl _, trivial⟩
              by_cases q3 : nn < 3000
              · have g3 : decide (nn < 3000) = true := decide_eq_true q3
                have HQ3 := Lib.hid q3
                clear q3
                go_wp2_with fail
                go_ret
                refine ⟨true, rfl, fun _ p => ?_, HB0.out.trans (hB.out.mono (Nat.le_of_lt HXs.out))⟩
                have hK := HK.out
                have := p.h3
                have h8 := HL2.out
                have h9 := HL3.out
                have h1 := HN.out p (by omega)
                rw [List.take_of_length_le (by omega)] at h1
                have h2 := HQ3.out
                omega
              · have g3 : decide (nn < 3000) = false := decide_eq_false q3
                clear q3
                go_wp2_with fail
                go_ret
                exact ⟨false, rfl, (fun q => by cases q), HB0.out.trans (hB.out.mono (Nat.le_of_lt HXs.out))⟩
      · have hq : m2 = k := by omega
        clear hlt hk hkN
        subst hq
        have hl1 : decide ((m2 : Int) < (m2 : Int)) = false := by simp
        have HN1 : Hid (Sml m1 l2 l3 → nn = ((m1 + m2 + m3 + szEs l2 : Nat) : Int)) := Lib.hid (fun p => by
          have h8 := HL2.out
          have := p.h2
          have h1 := HN.out p (by omega)
          rw [List.take_of_length_le (by omega)] at h1
          exact h1)
        obtain ⟨nn0, hnn0⟩ : ∃ z, nn = z := ⟨_, rfl⟩
        rw [hnn0] at HN1 ⊢
        have HB1 := hB
        clear HN hnn0 hB
        go_wp2_with fail
        go_loopw [3, 5] (fun n i wr => ∃ (k : Nat) (nn : Int), k ≤ m3 ∧ n = .int .i64 nn ∧ i = .int .i64 k ∧ Hid (Below X.heap.size X wr) ∧ Hid (Sml m1 l2 l3 → k ≤ 1024 → nn = ((m1 + m2 + m3 + szEs l2 + szSs (l3.take k) : Nat) : Int))) (fun _ i _ => m3 - (intOf i).toNat)
        case atStart => exact ⟨0, nn0, Nat.zero_le _, rfl, rfl, HB1, Lib.hid (fun p _ => by have := HN1.out p; simpa [szSs] using this)⟩
        case round =>
          obtain ⟨k, nn, hk, rfl, rfl, hB, HN⟩ := hrel
          clear HB1 HN1
          have x2 := (hB.out.cell (p := ⟨w.heap.size, 2, none⟩) HXs.out).trans D2.out
          have x3 := (hB.out.cell (p := ⟨w.heap.size, 3, none⟩) HXs.out).trans D3.out
          by_cases hlt : k < m3 ∧ k < 3000
          · have hl1a : k < m3 := by omega
            have hl1b : (k : Int) < (m3 : Int) := by omega
            have hl1c : decide (k < m3) = true := decide_eq_true (by omega)
            have hl1d : decide ((k : Int) < (m3 : Int)) = true := decide_eq_true (by omega)
            have hl2a : k < 3000 := by omega
            have hl2b : (k : Int) < 3000 := by omega
            have hl2c : decide (k < 3000) = true := decide_eq_true (by omega)
            have hl2d : decide ((k : Int) < 3000) = true := decide_eq_true (by omega)
            obtain ⟨hl, g, off, cs, ha, hg, hcs, hcel⟩ := H3.out.el2 rfl (HBW.out.trans ((HB0.out.trans (hB.out.mono (Nat.le_of_lt HXs.out))).mono HWl.out)) k hlt.1
            subst ha
            obtain ⟨x, hx⟩ : ∃ x, l3[k] = x := ⟨_, rfl⟩
            rw [hx] at hcs
            have HX := Lib.hid hx
            clear hx
            obtain ⟨y0, y1, y2, y3, y4, y5⟩ := x
            obtain ⟨vn, rn, hcs0, hs3, hrn⟩ := hcs
            have hcs0 : cs = [.int .i64 y0, .int .i64 y1, .int .i64 y2, .string y3, .int .i64 y4, vn] := hcs0
            have hs3 : y3.size ≤ 9223372036854775807 := by unfold maxLen at hs3; simp only at hs3; omega
            have hs3' : (y3.size : Int) ≤ 9223372036854775807 := by omega
            subst hcs0
            obtain ⟨an, cn, hvn⟩ := hrn.rd.slice
            have hmxn := hrn.rd.len
            have hlnn := hrn.len
            obtain ⟨mn, hnn⟩ : ∃ mn, rn.length = mn := ⟨_, rfl⟩
            rw [hnn] at hvn hmxn hlnn
            subst hvn
            have hmn : (mn : Int) ≤ 9223372036854775807 := by unfold maxLen at hmxn; omega
            have HRN := Lib.hid hrn
            have HLN := Lib.hid hlnn
            clear hrn hnn hmxn hlnn
            have y3c : wr.cell? ⟨g, off + k * 6 + 3, none⟩ = some (.string y3) := hcel 3 _ rfl
            have y5c : wr.cell? ⟨g, off + k * 6 + 5, none⟩ = some (.slice an mn cn) := hcel 5 _ rfl
            have HG := Lib.hid (show g < wr.heap.size from hg)
            have HY5 := Lib.hid y5c
            have HLt := Lib.hid hlt
            have HBr := Lib.hid hB.out
            clear hcel hg hlt hk
            go_wp2_with fail
            go_quiet (fail)
            generalize hw3 : World.drewN wr _ = w3 at *
            have HB3 : Hid (Below X.heap.size X w3) := Lib.hid (by rw [← hw3]; exact below_dqC HBr.out _)
            have HW3 : Hid (Below wr.heap.size wr w3) := Lib.hid (by rw [← hw3]; exact below_dqC (Below.refl _ _) _)
            clear hw3 x2 x3 y3c y5c hB
            go_wp2_with fail
            obtain ⟨nn1, hnn1⟩ : ∃ z : Int, wrap64 (wrap64 (nn + (y3.size : Int)) + (mn : Int)) = z := ⟨_, rfl⟩
            rw [hnn1]
            have HN1 : Hid (Sml m1 l2 l3 → nn1 = ((m1 + m2 + m3 + szEs l2 + szSs (l3.take k) + y3.size + mn : Nat) : Int)) := Lib.hid (fun p => by
              have h1 := HN.out p (by have := p.h3; have := HL3.out; have := HLt.out; omega)
              have h2 := p.e3 _ (HX.out ▸ List.getElem_mem hl)
              have h3 := p.se k
              have h4 := p.en l2.length
              rw [List.take_length] at h4
              have h5 := p.h1
              have h6 := p.h2
              have h7 := p.h3
              have h8 := HL2.out
              have h9 := HL3.out
              have h10 := HLN.out
              try simp only at h2 h10
              rw [← hnn1, IntWalk.wrap64_in (nn + (y3.size : Int)) (by omega), IntWalk.wrap64_in _ (by omega)]
              omega)
            clear hnn1
            go_loopw [3, 6] (fun n i wr2 => ∃ (j : Nat) (nj : Int), j ≤ mn ∧ n = .int .i64 nj ∧ i = .int .i64 j ∧ Hid (Below w3.heap.size w3 wr2) ∧ Hid (Sml m1 l2 l3 → j ≤ 1024 → nj = ((m1 + m2 + m3 + szEs l2 + szSs (l3.take k) + y3.size + mn + szT (y5.take j) : Nat) : Int))) (fun _ i _ => mn - (intOf i).toNat)
            case atStart => exact ⟨0, nn1, Nat.zero_le _, rfl, rfl, Lib.hid (Below.refl _ _), Lib.hid (fun p _ => by have := HN1.out p; simpa [szT] using this)⟩
            case round =>
              obtain ⟨j, nj, hj, rfl, rfl, hB2, HNj⟩ := hrel
              have hBX : Hid (Below X.heap.size X wr) := Lib.hid (HB3.out.trans (hB2.out.mono HB3.out.size))
              have x2 := (hBX.out.cell (p := ⟨w.heap.size, 2, none⟩) HXs.out).trans D2.out
              have x3 := (hBX.out.cell (p := ⟨w.heap.size, 3, none⟩) HXs.out).trans D3.out
              have y5c : wr.cell? ⟨g, off + k * 6 + 5, none⟩ = some (.slice an mn cn) := (hB2.out.cell (p := ⟨g, off + k * 6 + 5, none⟩) (Nat.lt_of_lt_of_le HG.out HW3.out.size)).trans ((HW3.out.cell (p := ⟨g, off + k * 6 + 5, none⟩) HG.out).trans HY5.out)
              have hk3 : k < m3 := HLt.out.1
              have hk3' : (k : Int) < (m3 : Int) := by omega
              by_cases hlj : j < mn ∧ j < 3000
              · have gj1a : j < mn := by omega
                have gj1b : (j : Int) < (mn : Int) := by omega
                have gj1c : decide (j < mn) = true := decide_eq_true (by omega)
                have gj1d : decide ((j : Int) < (mn : Int)) = true := decide_eq_true (by omega)
                have gj2a : j < 3000 := by omega
                have gj2b : (j : Int) < 3000 := by omega
                have gj2c : decide (j < 3000) = true := decide_eq_true (by omega)
                have gj2d : decide ((j : Int) < 3000) = true := decide_eq_true (by omega)
                obtain ⟨hl5, g5, off5, cs5, ha5, hg5, hcs5, hcel5⟩ := HRN.out.el2 rfl (HBW.out.trans ((HB0.out.trans (hBX.out.mono (Nat.le_of_lt HXs.out))).mono HWl.out)) j hlj.1
                subst ha5
                obtain ⟨t, ht⟩ : ∃ t, y5[j] = t := ⟨_, rfl⟩
                rw [ht] at hcs5
                have HT := Lib.hid ht
                have hcs5' : cs5 = [.string t] := hcs5.1
                have hst : t.size ≤ 9223372036854775807 := by have := hcs5.2; unfold maxLen at this; omega
                have hst' : (t.size : Int) ≤ 9223372036854775807 := by omega
                subst hcs5'
                have z0 : wr.cell? ⟨g5, off5 + j, none⟩ = some (.string t) := by have := hcel5 0 _ rfl; simpa [KT, rawK] using this
                clear hcel5 hg5 hcs5 ht
                have HLj := Lib.hid hlj
                go_wp2_with fail
                go_roundw
                case rel =>
                  refine ⟨j + 1, _, by omega, rfl, by go_num, hB2, Lib.hid (fun p hj1 => ?_)⟩
                  have h1 := HNj.out p (by omega)
                  have h2 := p.e3 _ (HX.out ▸ List.getElem_mem hl)
                  have h3 := p.se k
                  have h4 := p.en l2.length
                  rw [List.take_length] at h4
                  try simp only at h2
                  have h5 := szT_le h2.2.2 h2.2.1 j
                  have h6 := h2.2.2 _ (HT.out ▸ List.getElem_mem hl5)
                  have h7 := sum_take (fun t : ByteArray => t.size) y5 j hl5
                  rw [HT.out] at h7
                  have h8 := HL2.out
                  have h9 := HL3.out
                  have := p.h1
                  have := p.h2
                  have := p.h3
                  have h10 := HLN.out
                  try simp only at h10
                  rw [IntWalk.wrap64_in (nj + (t.size : Int)) (by omega)]
                  unfold szT at h1 h5 ⊢
                  rw [h7]
                  omega
                case measure => simp [intOf]; omega
              · by_cases hjN : j < mn
                · have gj1a : j < mn := by omega
                  have gj1b : (j : Int) < (mn : Int) := by omega
                  have gj1c : decide (j < mn) = true := decide_eq_true (by omega)
                  have gj1d : decide ((j : Int) < (mn : Int)) = true := decide_eq_true (by omega)
                  have gj2a : ¬ j < 3000 := by omega
                  have gj2b : ¬ (j : Int) < 3000 := by omega
                  have gj2c : decide (j < 3000) = false := decide_eq_false (by omega)
                  have gj2d : decide ((j : Int) < 3000) = false := decide_eq_false (by omega)
                  have HKj : Hid (3000 ≤ j ∧ j ≤ mn) := Lib.hid (by omega)
                  clear hlj hj hjN
                  go_wp2_with fail
                  go_roundw
                  case rel =>
                    refine ⟨k + 1, nj, by omega, rfl, by go_num, hBX, Lib.hid (fun p hk1 => ?_)⟩
                    have h2 := p.e3 _ (HX.out ▸ List.getElem_mem hl)
                    try simp only at h2
                    have h10 := HLN.out
                    try simp only at h10
                    have hK := HKj.out
                    have h1 := HNj.out p (by omega)
                    rw [List.take_of_length_le (l := y5) (by omega)] at h1
                    have h7 := sum_take szS l3 k hl
                    rw [HX.out] at h7
                    have h11 : szS (y0, y1, y2, y3, y4, y5) = y3.size + y5.length + szT y5 := rfl
                    unfold szSs at h1 ⊢
                    rw [h7]
                    omega
                  case measure => simp [intOf]; omega
                · have hq : mn = j := by omega
                  clear hlj hj hjN
                  subst hq
                  have gj1 : decide ((mn : Int) < (mn : Int)) = false := by simp
                  have HKj : Hid (mn ≤ mn ∧ True) := Lib.hid ⟨Nat.le_refl _, trivial⟩
                  go_wp2_with fail
                  go_roundw
                  case rel =>
                    refine ⟨k + 1, nj, by omega, rfl, by go_num, hBX, Lib.hid (fun p hk1 => ?_)⟩
                    have h2 := p.e3 _ (HX.out ▸ List.getElem_mem hl)
                    try simp only at h2
                    have h10 := HLN.out
                    try simp only at h10
                    have hK := HKj.out
                    have h1 := HNj.out p (by omega)
                    rw [List.take_of_length_le (l := y5) (by omega)] at h1
                    have h7 := sum_take szS l3 k hl
                    rw [HX.out] at h7
                    have h11 : szS (y0, y1, y2, y3, y4, y5) = y3.size + y5.length + szT y5 := rfl
                    unfold szSs at h1 ⊢
                    rw [h7]
                    omega
                  case measure => simp [intOf]; omega
          · by_cases hkN : k < m3
            · have hl1a : k < m3 := by omega
              have hl1b : (k : Int) < (m3 : Int) := by omega
              have hl1c : decide (k < m3) = true := decide_eq_true (by omega)
              have hl1d : decide ((k : Int) < (m3 : Int)) = true := decide_eq_true (by omega)
              have hl2a : ¬ k < 3000 := by omega
              have hl2b : ¬ (k : Int) < 3000 := by omega
              have hl2c : decide (k < 3000) = false := decide_eq_false (by omega)
              have hl2d : decide ((k : Int) < 3000) = false := decide_eq_false (by omega)
              have HK : Hid (3000 ≤ k ∧ k ≤ m3) := Lib.hid (by omega)
              clear hlt hk hkN
              by_cases q3 : nn < 3000
              · have g3 : decide (nn < 3000) = true := decide_eq_true q3
                have HQ3 := Lib.hid q3
                clear q3
                go_wp2_with fail
                go_ret
                refine ⟨true, rfl, fun _ p => ?_, HB0.out.trans (hB.out.mono (Nat.le_of_lt HXs.out))⟩
                have hK := HK.out
                have := p.h3
                have h8 := HL2.out
                have h9 := HL3.out
                have h1 := HN.out p (by omega)
                rw [List.take_of_length_le (by omega)] at h1
                have h2 := HQ3.out
                omega
              · have g3 : decide (nn < 3000) = false := decide_eq_false q3
                clear q3
                go_wp2_with fail
                go_ret
                exact ⟨false, rfl, (fun q => by cases q), HB0.out.trans (hB.out.mono (Nat.le_of_lt HXs.out))⟩
            · have hq : m3 = k := by omega
              clear hlt hk hkN
              subst hq
              have hl1 : decide ((m3 : Int) < (m3 : Int)) = false := by simp
              have HK : Hid (m3 ≤ m3 ∧ True) := Lib.hid ⟨Nat.le_refl _, trivial⟩
              by_cases q3 : nn < 3000
              · have g3 : decide (nn < 3000) = true := decide_eq_true q3
                have HQ3 := Lib.hid q3
                clear q3
                go_wp2_with fail
                go_ret
                refine ⟨true, rfl, fun _ p => ?_, HB0.out.trans (hB.out.mono (Nat.le_of_lt HXs.out))⟩
                have hK := HK.out
                have := p.h3
                have h8 := HL2.out
                have h9 := HL3.out
                have h1 := HN.out p (by omega)
                rw [List.take_of_length_le (by omega)] at h1
                have h2 := HQ3.out
                omega
              · have g3 : decide (nn < 3000) = false := decide_eq_false q3
                clear q3
                go_wp2_with fail
                go_ret
                exact ⟨false, rfl, (fun q => by cases q), HB0.out.trans (hB.out.mono (Nat.le_of_lt HXs.out))⟩
end Go.Proofs.Ytllcmapgigfgoaa
namespace Go.Proofs.Ytllcmapgigfgoaa
open Go.RowKit
set_option linter.unusedSimpArgs false
set_option linter.unusedVariables false

theorem costs_app (l k : List Fd) : costs (l ++ k) = costs l + costs k := by simp [costs]
theorem costs_cons (f : Fd) (k : List Fd) : costs (f :: k) = f.cost + costs k := by simp [costs]
theorem costs_num (n : Int) : costs (numC.fs n) = 8 := rfl
theorem costs_txt (t : ByteArray) : costs (txtC.fs t) = 8 + t.size := rfl
theorem costs_pair {α β : Type} (A : Cod α) (B : Cod β) (x : α × β) : costs ((pairC A B).fs x) = costs (A.fs x.1) + costs (B.fs x.2) := by rw [pairC_fs, costs_app]
theorem costs_list {α : Type} (A : Cod α) (l : List α) : costs ((listC A).fs l) = 8 + costs (l.flatMap A.fs) := by rw [listC_fs, costs_cons]; rfl
theorem costs_flat {α : Type} (A : Cod α) (c d : Nat) (f : α → Nat) (h : ∀ x, costs (A.fs x) ≤ c + d * f x) : ∀ l : List α, costs (l.flatMap A.fs) ≤ c * l.length + d * (l.map f).sum
  | [] => by simp [costs]
  | x :: l => by
    have h1 := costs_flat A c d f h l
    have h2 := h x
    rw [List.flatMap_cons, costs_app, List.length_cons, List.map_cons, List.sum_cons, Nat.mul_add, Nat.mul_add]
    omega
theorem costs_id (x : Id3) : costs (idC.fs x) = 24 := by unfold idC; simp only [costs_pair, costs_num]
theorem costs_en (x : Ent) : costs (enC.fs x) ≤ 24 + 1 * szE x := by unfold enC szE; simp only [costs_pair, costs_num, costs_txt]; omega
theorem costs_names (l : List ByteArray) : costs (l.flatMap txtC.fs) ≤ 8 * l.length + 1 * szT l := costs_flat txtC 8 1 (·.size) (fun t => by rw [costs_txt]; omega) l
theorem costs_se (x : Ses) : costs (seC.fs x) ≤ 48 + 8 * szS x := by
  have h := costs_names x.2.2.2.2.2
  unfold seC rpC szS
  simp only [costs_pair, costs_num, costs_txt, costs_list]
  omega
theorem costs_in (x : Ins) : costs (inC.fs x) ≤ 200 + x.2.2.2.1.2.2.2.1.size + x.2.2.2.1.2.2.2.2.1.size + 24 * x.2.2.2.2.2.length := by
  have h := costs_flat idC 24 0 (fun _ => 0) (fun t => by rw [costs_id]; omega) x.2.2.2.2.2
  unfold inC balC cmC atC
  simp only [costs_pair, costs_num, costs_txt, costs_list]
  omega
theorem costs_sn (x : Snp) : costs (snC.fs x) ≤ 100 + 8 * x.1.2.length + 24 * x.2.1.length + szEs x.2.1 + 48 * x.2.2.length + 8 * szSs x.2.2 := by
  have h1 := costs_flat numC 8 0 (fun _ => 0) (fun t => by rw [costs_num]; omega) x.1.2
  have h2 := costs_flat enC 24 1 szE costs_en x.2.1
  have h3 := costs_flat seC 48 8 szS costs_se x.2.2
  unfold snC cfC
  unfold szEs szSs
  simp only [costs_pair, costs_num, costs_txt, costs_list]
  omega
theorem costs_ms (x : Msg7) : costs (msC.fs x) = 64 + costs (inC.fs x.2.2.2.2.2.1) + costs (snC.fs x.2.2.2.2.2.2) := by
  unfold msC idC balC
  simp only [costs_pair, costs_num, costs_txt, costs_list]
  omega
theorem oks_pair {α β : Type} {A : Cod α} {B : Cod β} {x : α × β} (h : Oks ((pairC A B).fs x)) : Oks (A.fs x.1) ∧ Oks (B.fs x.2) := by
  rw [pairC_fs, oks_app] at h; exact h
theorem oks_len {α : Type} {A : Cod α} {l : List α} (h : Oks ((listC A).fs l)) : l.length ≤ 1024 := by
  rw [listC_fs, oks_cons] at h; exact h.1
theorem oks_txt {t : ByteArray} (h : Oks (txtC.fs t)) : t.size ≤ 4096 := h (.txt t) (List.mem_cons_self ..)
theorem sml_of {x : Snp} (h : Oks (snC.fs x)) : Sml x.1.2.length x.2.1 x.2.2 := by
  obtain ⟨h1, h2⟩ := oks_pair h
  obtain ⟨h3, h4⟩ := oks_pair h2
  obtain ⟨_, h5⟩ := oks_pair h1
  refine ⟨oks_len h5, oks_len h3, oks_len h4, fun y hy => ?_, fun y hy => ?_⟩
  · obtain ⟨k1, k2⟩ := oks_pair (oks_flat h3 y hy)
    obtain ⟨k3, _⟩ := oks_pair k2
    exact ⟨oks_txt k1, oks_txt k3⟩
  · obtain ⟨_, k2⟩ := oks_pair (oks_flat h4 y hy)
    obtain ⟨_, k3⟩ := oks_pair k2
    obtain ⟨_, k4⟩ := oks_pair k3
    obtain ⟨k5, k6⟩ := oks_pair k4
    obtain ⟨_, k7⟩ := oks_pair k6
    exact ⟨oks_txt k5, oks_len k7, fun t ht => oks_txt (oks_flat k7 t ht)⟩
theorem sml_in {x : Ins} (h : Oks (inC.fs x)) : x.2.2.2.1.2.2.2.1.size ≤ 4096 ∧ x.2.2.2.1.2.2.2.2.1.size ≤ 4096 ∧ x.2.2.2.2.2.length ≤ 1024 := by
  obtain ⟨_, h1⟩ := oks_pair h
  obtain ⟨_, h2⟩ := oks_pair h1
  obtain ⟨_, h3⟩ := oks_pair h2
  obtain ⟨h4, h5⟩ := oks_pair h3
  obtain ⟨_, h6⟩ := oks_pair h5
  obtain ⟨_, k1⟩ := oks_pair h4
  obtain ⟨_, k2⟩ := oks_pair k1
  obtain ⟨_, k3⟩ := oks_pair k2
  obtain ⟨k4, k5⟩ := oks_pair k3
  obtain ⟨k6, _⟩ := oks_pair k5
  exact ⟨oks_txt k4, oks_txt k6, oks_len h6⟩
/-- So little of an instance and a snap that it is looked at. -/
def Ltl (x : Ins) (y : Snp) : Prop := costs (inC.fs x) + costs (snC.fs y) ≤ 400000
def FewP (x : Ins) (y : Snp) (w : World) (e : Ending) (w' : World) : Prop := ∃ R : Bool, Hid (e = .returned (.bool R)) ∧ (R = true → Oks (inC.fs x) → Oks (snC.fs y) → Ltl x y) ∧ Below w.heap.size w w'
set_option maxRecDepth 100000 in
set_option maxHeartbeats 4000000 in
theorem few_any (v : Value) (x : Msg7) (w : World) (h : MsgIs w v x) : Calls Try.prog 11 #[v] w (FewP x.2.2.2.2.2.1 x.2.2.2.2.2.2 w) := by
  obtain ⟨cs, rfl, hs⟩ := h
  obtain ⟨a22, m22, c22, rs22, a24, m24, c24, rs24, a25, m25, c25, rs25, a26, m26, c26, rs26, hcs, hs16, hs17, hr22, hr24, hr25, hr26⟩ := ms_is hs
  obtain ⟨n0, n1, n2, ⟨n3, n4, n5⟩, ⟨n6, n7⟩, ⟨n8, ⟨n9, n10⟩, ⟨n11, n12⟩, ⟨n13, n14, n15, n16, n17, n18, n19, n20⟩, n21, l22⟩, ⟨n23, l24⟩, l25, l26⟩ := x
  obtain rfl : cs = #[.int .i64 n0, .int .i64 n1, .int .i64 n2, .int .i64 n3, .int .i64 n4, .int .i64 n5, .int .i64 n6, .int .i64 n7, .int .i64 n8, .int .i64 n9, .int .i64 n10, .int .i64 n11, .int .i64 n12, .int .i64 n13, .int .i64 n14, .int .i64 n15, .string n16, .string n17, .int .i64 n18, .int .i64 n19, .int .i64 n20, .int .i64 n21, .slice a22 m22 c22, .int .i64 n23, .slice a24 m24 c24, .slice a25 m25 c25, .slice a26 m26 c26] := by
    cases cs
    simpa [msV, inV, snV] using hcs
  simp only at hs16 hs17 hr22 hr24 hr25 hr26 ⊢
  have hm : ∀ {k : Nat} {K : Knd Try.prog (Cls k)} {α : Type} {S : Shp α} {a : Option Addr} {m c : Nat} {rs : List (Cls k)} {l : List α}, RowIs K S w (.slice a m c) rs l → m = l.length ∧ m ≤ 9223372036854775807 := by
    intro k K α S a m c rs l hr
    obtain ⟨_, _, e⟩ := hr.rd.slice
    simp only [Value.slice.injEq] at e
    have h1 := hr.len
    have h2 := hr.rd.len
    unfold maxLen at h2
    omega
  have q22 := hm hr22
  have q24 := hm hr24
  have f16 : (n16.size : Int) ≤ 9223372036854775807 := by unfold maxLen at hs16; omega
  have f17 : (n17.size : Int) ≤ 9223372036854775807 := by unfold maxLen at hs17; omega
  have f22 : (m22 : Int) ≤ 9223372036854775807 := by omega
  have HS : Hid (∀ w2 : World, Below w.heap.size w w2 → Calls Try.prog 25 #[.agg #[.int .i64 n23, .slice a24 m24 c24, .slice a25 m25 c25, .slice a26 m26 c26]] w2 (FsP m24 l25 l26 w2)) :=
    Lib.hid fun w2 hb => fsnap_any n23 a24 m24 c24 a25 m25 c25 a26 m26 c26 rs25 l25 rs26 l26 w w2 hb q24.2 hr25 hr26
  have HQ22 := Lib.hid q22.1
  have HQ24 := Lib.hid q24.1
  clear hm q22 q24 hr22 hr24 hr25 hr26 hs hcs hs16 hs17
  go_enter Try.func11, Try.ntmps11
  by_cases q : wrap64 (wrap64 ((n16.size : Int) + (n17.size : Int)) + (m22 : Int)) < 3000
  · have g1 : decide (wrap64 (wrap64 ((n16.size : Int) + (n17.size : Int)) + (m22 : Int)) < 3000) = true := decide_eq_true q
    have HQ := Lib.hid q
    go_wp2_with fail
    refine (HS.out _ ((Below.refl _ _).alloc (Nat.le_refl _) _)).mono ?_
    rintro e w1 ⟨R, he, hR, hb⟩
    rw [he.out]
    clear he
    have HR := Lib.hid hR
    have HB := Lib.hid (((Below.refl w.heap.size w).alloc (Nat.le_refl _) _).trans (hb.mono (by simp)))
    clear hR hb
    go_wp2_with fail
    go_ret
    refine ⟨R, rfl, fun r o1 o2 => ?_, HB.out⟩
    have s1 := sml_in o1
    have s2 := sml_of o2
    rw [show ((n23, l24), l25, l26).1.2.length = m24 from HQ24.out.symm] at s2
    have s3 := HR.out r s2
    have c1 := costs_in (n8, (n9, n10), (n11, n12), (n13, n14, n15, n16, n17, n18, n19, n20), n21, l22)
    have c2 := costs_sn ((n23, l24), l25, l26)
    have h2 := HQ.out
    have h3 := HQ22.out
    have h4 := HQ24.out
    simp only at s1 c1 c2
    rw [IntWalk.wrap64_in ((n16.size : Int) + (n17.size : Int)) (by omega), IntWalk.wrap64_in _ (by omega)] at h2
    unfold Ltl
    omega
  · have g1 : decide (wrap64 (wrap64 ((n16.size : Int) + (n17.size : Int)) + (m22 : Int)) < 3000) = false := decide_eq_false q
    go_wp2_with fail
    go_ret
    exact ⟨false, rfl, (fun r => by cases r), (Below.refl w.heap.size w).alloc (Nat.le_refl _) _⟩
theorem few_len {x : Msg7} (h : Oks (msC.fs x)) (hf : Oks (inC.fs x.2.2.2.2.2.1) → Oks (snC.fs x.2.2.2.2.2.2) → Ltl x.2.2.2.2.2.1 x.2.2.2.2.2.2) : (eF (msC.fs x)).length ≤ 500000 := by
  obtain ⟨_, h1⟩ := oks_pair h
  obtain ⟨_, h2⟩ := oks_pair h1
  obtain ⟨_, h3⟩ := oks_pair h2
  obtain ⟨_, h4⟩ := oks_pair h3
  obtain ⟨_, h5⟩ := oks_pair h4
  obtain ⟨h6, h7⟩ := oks_pair h5
  have k := hf h6 h7
  have e := eF_le (msC.fs x)
  rw [costs_ms] at e
  unfold Ltl at k
  omega
end Go.Proofs.Ytllcmapgigfgoaa
