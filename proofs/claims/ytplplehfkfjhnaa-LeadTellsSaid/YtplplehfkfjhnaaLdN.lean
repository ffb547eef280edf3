/-
  Leads: asked, where nobody voted.
-/
import Derived.Test.YtplplehfkfjhnaaLdM
namespace Go.Proofs.Ytplplehfkfjhnaa
open Go.RowKit
open Bb (quoN thN allB)
set_option linter.unusedSimpArgs false
set_option linter.unusedVariables false
set_option maxRecDepth 100000

abbrev cm0 : CM := ⟨0, 0, 0, ⟨#[]⟩, ⟨#[]⟩, 0, 0, 0⟩
set_option maxHeartbeats 8000000 in
theorem asked_none {w : World} {B g : Nat} {L : LSt} (h : LdAt w B g L) (ho : LOk L) (hs : ∀ x ∈ L.heard, x.st < 1) : Calls Try.prog 36 #[gP g] w (PrP (entL L 1 cm0 (0, [])) B g w) := by
  have HL := Lib.hid h
  obtain ⟨Bw, vn, vd, vw, vh, h⟩ := h
  have hNL : L.heard.length ≤ 40 := by rw [ho.hl]; exact ho.wl
  obtain ⟨a, c, e⟩ := h.heard.slice
  subst e
  obtain ⟨N, hN⟩ : ∃ N, L.heard.length = N := ⟨_, rfl⟩
  have c23 := h.cell 23
  simp only [ldE, List.getElem?_cons_zero, List.getElem?_cons_succ] at c23
  have hH := h.heard
  rw [hN] at c23 hH hNL
  have hlt := h.bk.lt
  have HLo : Hid (B ≤ g) := Lib.hid h.lo
  have HH := Lib.hid hH
  have HN := Lib.hid hN
  have HS := Lib.hid hs
  clear h hH hN ho hs
  go_enter Try.func36, Try.ntmps36
  go_wp2_with fail
  clear c23
  go_loopw [2, 11] (fun sl i wr => ∃ (k : Nat), sl = .slice none 0 0 ∧ k ≤ N ∧ i = .int .i64 k ∧ Hid (Below w.heap.size w wr)) (fun _ i _ => N - (intOf i).toNat)
  case atStart => exact ⟨0, rfl, Nat.zero_le _, rfl, Lib.hid (Below.refl _ _)⟩
  case round =>
    obtain ⟨k, rfl, hk, rfl, hB⟩ := hrel
    by_cases hlt2 : k < N
    · have hk1 : (k : Int) < (N : Int) := by omega
      obtain ⟨-, hl, b, u, rfl, hb, hu, hok, hc⟩ := HH.out.el hB.out k hlt2
      have hst := HS.out _ (List.getElem_mem hl)
      obtain ⟨ua, uc, hue⟩ := hu.slice
      obtain ⟨x, hx⟩ : ∃ x, L.heard[k] = x := ⟨_, rfl⟩
      rw [hx] at hc hue hst
      clear hx hu hok
      obtain ⟨n0, ⟨n1, n2⟩, ⟨n3, n4⟩, ⟨n5, n6, n7, n8, n9, n10, n11, n12⟩, s, dl⟩ := x
      obtain ⟨d, hd⟩ : ∃ d, dl.length = d := ⟨_, rfl⟩
      simp only [hd] at hue
      subst hue
      simp only at hst
      have hst2 : ¬ (1 ≤ n0) := by omega
      have hst3 : decide (1 ≤ n0) = false := decide_eq_false hst2
      clear hd
      have z0 : wr.cell? ⟨b, k * 15, none⟩ = some (.int .i64 n0) := hc 0 _ rfl
      have z1 : wr.cell? ⟨b, k * 15 + 1, none⟩ = some (.int .i64 n1) := hc 1 _ rfl
      have z2 : wr.cell? ⟨b, k * 15 + 2, none⟩ = some (.int .i64 n2) := hc 2 _ rfl
      have z3 : wr.cell? ⟨b, k * 15 + 3, none⟩ = some (.int .i64 n3) := hc 3 _ rfl
      have z4 : wr.cell? ⟨b, k * 15 + 4, none⟩ = some (.int .i64 n4) := hc 4 _ rfl
      have z5 : wr.cell? ⟨b, k * 15 + 5, none⟩ = some (.int .i64 n5) := hc 5 _ rfl
      have z6 : wr.cell? ⟨b, k * 15 + 6, none⟩ = some (.int .i64 n6) := hc 6 _ rfl
      have z7 : wr.cell? ⟨b, k * 15 + 7, none⟩ = some (.int .i64 n7) := hc 7 _ rfl
      have z8 : wr.cell? ⟨b, k * 15 + 8, none⟩ = some (.string n8) := hc 8 _ rfl
      have z9 : wr.cell? ⟨b, k * 15 + 9, none⟩ = some (.string n9) := hc 9 _ rfl
      have z10 : wr.cell? ⟨b, k * 15 + 10, none⟩ = some (.int .i64 n10) := hc 10 _ rfl
      have z11 : wr.cell? ⟨b, k * 15 + 11, none⟩ = some (.int .i64 n11) := hc 11 _ rfl
      have z12 : wr.cell? ⟨b, k * 15 + 12, none⟩ = some (.int .i64 n12) := hc 12 _ rfl
      have z13 : wr.cell? ⟨b, k * 15 + 13, none⟩ = some (.int .i64 s) := hc 13 _ rfl
      have z14 : wr.cell? ⟨b, k * 15 + 14, none⟩ = some (.slice ua d uc) := hc 14 _ rfl
      have hbr : b < wr.heap.size := Nat.lt_of_lt_of_le hb hB.out.size
      have hz := hB.out.size
      have HB2 := Lib.hid (hB.out.alloc hz (.cells #[.int .i64 n0, .int .i64 n1, .int .i64 n2, .int .i64 n3, .int .i64 n4, .int .i64 n5, .int .i64 n6, .int .i64 n7, .string n8, .string n9, .int .i64 n10, .int .i64 n11, .int .i64 n12, .int .i64 s, .slice ua d uc] 38))
      clear hc
      go_wp2_with fail
      go_roundw
      case rel => exact ⟨k + 1, rfl, by omega, by go_num, HB2⟩
      case measure => simp [intOf]; omega
    · have e : k = N := by omega
      subst e
      have HE := Lib.hid (enter_any (HL.out.below hB.out) 1 cm0 0 (.slice none 0 0) [] (Knd.Rd.nil _) (fun x hx => by cases hx) (by simp))
      go_wp2_with fail
      refine HE.out.mono ?_
      rintro e w2 ⟨he, hL2, hb2, hs2⟩
      rw [he.out]
      have HL2 := Lib.hid hL2
      have HB2 := Lib.hid ((hB.out.mono (by have := HLo.out; omega)).trans hb2)
      have HK2 := Lib.hid ((Kt.below hB.out).trans (Kt.ent hs2 (HL.out.below hB.out)))
      clear he hL2 hb2 HE hs2
      go_wp2
      go_end0
      exact ⟨rfl, HL2.out, HB2.out, HK2.out⟩
end Go.Proofs.Ytplplehfkfjhnaa
