/-
  Leads: the attributes that were heard.
-/
import Derived.Test.YtplplehfkfjhnaaLdF
namespace Go.Proofs.Ytplplehfkfjhnaa
open Go.RowKit
open Bb (quoN thN allB)
set_option linter.unusedSimpArgs false
set_option linter.unusedVariables false
set_option maxRecDepth 100000

/-- One of what was heard: its cells. -/
theorem HRow.el {w wr : World} {B Bw : Nat} {a : Option Addr} {n c : Nat} {l : List Ist} (h : HRow w B Bw (.slice a n c) l) (hb : Below w.heap.size w wr) (k : Nat) (hk : k < n) :
    n = l.length ∧ ∃ (hl : k < l.length) (g : Nat) (u : Value), a = some ⟨g, 0, none⟩ ∧ g < w.heap.size ∧ IK.Own w B u l[k].at'.2 ∧ okL l[k].at'.2 ∧ ∀ j v, (inE l[k] u)[j]? = some v → wr.cell? ⟨g, k * 15 + j, none⟩ = some v := by
  obtain ⟨rs, h1, h2, h3⟩ := h
  have hs := h1.slice
  obtain ⟨a0, c0, e0⟩ := hs
  simp only [Value.slice.injEq] at e0
  obtain ⟨rfl, rfl, rfl⟩ := e0
  have hne : rs ≠ [] := by intro e; rw [e] at hk; simp at hk
  have hl : k < l.length := by rw [← h2]; exact hk
  obtain ⟨u, hcs, ho, hok⟩ := h3 k hk hl
  rcases h1.2 with ⟨e, _⟩ | ⟨g, cap, cur, e, hg, hh, hn, hm, hsz, hx⟩
  · simp only [Value.slice.injEq] at e
    have := e.2.1
    exact absurd (List.eq_nil_of_length_eq_zero this) hne
  · simp only [Value.slice.injEq] at e
    obtain ⟨rfl, _, _⟩ := e
    obtain ⟨_, g2, off, e2, hg2, hc⟩ := h1.rd.at hne
    simp only [Option.some.injEq, Addr.mk.injEq] at e2
    obtain ⟨rfl, rfl, _⟩ := e2
    refine ⟨h2, hl, g, u, rfl, hg2, ho, hok, fun j v hv => ?_⟩
    have e1 : rs.getD k KX.d = rs[k] := by simp [List.getD, hk]
    have := hc k hk j v (by rw [e1]; show rs[k].cs[j]? = _; rw [hcs]; exact hv)
    have e3 : KX.k = 15 := rfl
    rw [e3, Nat.zero_add] at this
    exact (hb.cell (p := ⟨g, k * 15 + j, none⟩) hg2).trans this
/-- Attributes, one by one. -/
def AtsAt (w : World) (B : Nat) (rs : List (Cls 2)) (l : List At) : Prop := rs.length = l.length ∧ ∀ (j : Nat) (h : j < rs.length) (h2 : j < l.length), ∃ u, rs[j].cs = [.int .i64 l[j].1, u] ∧ IK.Own w B u l[j].2 ∧ okL l[j].2
theorem AtsAt.nil (w : World) (B : Nat) : AtsAt w B [] [] := ⟨rfl, fun j h => by simp at h⟩
theorem AtsAt.more {w : World} {B : Nat} {rs : List (Cls 2)} {l : List At} (h : AtsAt w B rs l) (y : Cls 2) (a : At) (u : Value) (h1 : y.cs = [.int .i64 a.1, u]) (h2 : IK.Own w B u a.2) (h3 : okL a.2) : AtsAt w B (rs ++ [y]) (l ++ [a]) := by
  refine ⟨by simp [h.1], fun j p q => ?_⟩
  by_cases e : j < rs.length
  · rw [List.getElem_append_left e, List.getElem_append_left (by rw [← h.1]; exact e)]
    exact h.2 j e (by rw [← h.1]; exact e)
  · have e2 : j = rs.length := by simp at p; omega
    subst e2
    have e3 : (l ++ [a])[rs.length] = a := by
      rw [List.getElem_append_right (by rw [h.1]; exact Nat.le_refl _)]
      simp [h.1]
    rw [e3, List.getElem_append_right (Nat.le_refl _)]
    refine ⟨u, ?_, h2, h3⟩
    simpa using h1
theorem AtsAt.row {w w' : World} {B B2 : Nat} {rs : List (Cls 2)} {l : List At} {v : Value} (h : AtsAt w B rs l) (hb : Below w.heap.size w w') (ho : AtK.Own w' B2 v rs) : RowIs AtK atS w' v rs l :=
  ⟨ho.rd, h.1, fun j p q => by
    obtain ⟨u, h1, h2, h3⟩ := h.2 j p q
    exact ⟨u, h1, h2.rd.below hb, h3⟩⟩
def AtsP (l : List At) (w : World) (e : Ending) (w' : World) : Prop := ∃ v rs, Hid (e = .returned v) ∧ RowIs AtK atS w' v rs l ∧ Below w.heap.size w w'
set_option maxHeartbeats 8000000 in
theorem attrs_any {w : World} {B g : Nat} {L : LSt} (h : LdAt w B g L) (ho : LOk L) : Calls Try.prog 39 #[gP g] w (AtsP (L.heard.map (·.at')) w) := by
  obtain ⟨Bw, vn, vd, vw, vh, h⟩ := h
  have hNL : L.heard.length ≤ 40 := by rw [ho.hl]; exact ho.wl
  obtain ⟨a, c, e⟩ := h.heard.slice
  subst e
  obtain ⟨N, hN⟩ : ∃ N, L.heard.length = N := ⟨_, rfl⟩
  have c23 := h.cell 23
  simp only [ldE, List.getElem?_cons_zero, List.getElem?_cons_succ] at c23
  have hH := h.heard
  rw [hN] at c23 hH hNL
  have hlt := h.bk.lt
  have HH := Lib.hid hH
  have HN := Lib.hid hN
  clear h hH hN ho
  go_enter Try.func39, Try.ntmps39
  go_wp2_with fail
  clear c23
  go_loopw [3, 11] (fun sl i wr => ∃ (k : Nat) (v : Value) (rs : List (Cls 2)), v = sl ∧ k ≤ N ∧ i = .int .i64 k ∧ Hid (AtK.Own wr w.heap.size v rs) ∧ Hid (AtsAt w B rs ((L.heard.take k).map (·.at'))) ∧ Hid (Below w.heap.size w wr)) (fun _ i _ => N - (intOf i).toNat)
  case atStart => exact ⟨0, _, [], rfl, Nat.zero_le _, rfl, Lib.hid (Knd.Own.nil _ _), Lib.hid (AtsAt.nil _ _), Lib.hid (Below.refl _ _)⟩
  case round =>
    obtain ⟨k, v, rs, rfl, hk, rfl, hO, hA, hB⟩ := hrel
    by_cases hlt2 : k < N
    · have hk1 : (k : Int) < (N : Int) := by omega
      obtain ⟨-, hl, b, u, rfl, hb, hu, hok, hc⟩ := HH.out.el hB.out k hlt2
      have HA2 := Lib.hid (fun (y : Cls 2) (h1 : y.cs = [.int .i64 L.heard[k].at'.1, u]) => hA.out.more y L.heard[k].at' u h1 hu hok)
      have htk : (L.heard.take (k + 1)).map (·.at') = (L.heard.take k).map (·.at') ++ [L.heard[k].at'] := by
        rw [List.take_succ_eq_append_getElem hl, List.map_append]; rfl
      have HTK := Lib.hid htk
      have hrl : rs.length = k := by have := hA.out.1; rw [List.length_map, List.length_take] at this; omega
      have HRL := Lib.hid hrl
      clear hrl
      obtain ⟨ua, uc, hue⟩ := hu.slice
      obtain ⟨x, hx⟩ : ∃ x, L.heard[k] = x := ⟨_, rfl⟩
      rw [hx] at HTK hc hue
      have HA3 : Hid (∀ (y : Cls 2), y.cs = [.int .i64 x.at'.1, u] → AtsAt w B (rs ++ [y]) ((L.heard.take k).map (·.at') ++ [x.at'])) := Lib.hid (by rw [← hx]; exact HA2.out)
      clear HA2 htk hx hu hok
      obtain ⟨n0, ⟨n1, n2⟩, ⟨n3, n4⟩, ⟨n5, n6, n7, n8, n9, n10, n11, n12⟩, s, dl⟩ := x
      obtain ⟨d, hd⟩ : ∃ d, dl.length = d := ⟨_, rfl⟩
      simp only [hd] at hue
      subst hue
      clear hd
      have z0 : wr.cell? ⟨b, k * 15, none⟩ = some (.int .i64 n0) := hc 0 _ rfl
      have z1 : wr.cell? ⟨b, k * 15 + 1, none⟩ = some (.int .i64 n1) := hc 1 _ rfl
      have z2 : wr.cell? ⟨b, k * 15 + 2, none⟩ = some (.int .i64 n2) := hc 2 _ rfl
      have z3 : wr.cell? ⟨b, k * 15 + 3, none⟩ = some (.int .i64 n3) := hc 3 _ rfl
      have z4 : wr.cell? ⟨b, k * 15 + 4, none⟩ = some (.int .i64 n4) := hc 4 _ rfl
      have z5 : wr.cell? ⟨b, k * 15 + 5, none⟩ = some (.int .i64 n5) := hc 5 _ rfl
      have z6 : wr.cell? ⟨b, k * 15 + 6, none⟩ = some (.int .i64 n6) := hc 6 _ rfl
      have z7 : wr.cell? ⟨b, k * 15 + 7, none⟩ = some (.int .i64 n7) := hc 7 _ rfl
      have z8 : wr.cell? ⟨b, k * 15 + 8, none⟩ = some (.string n8) := hc 8 _ rfl
      have z9 : wr.cell? ⟨b, k * 15 + 9, none⟩ = some (.string n9) := hc 9 _ rfl
      have z10 : wr.cell? ⟨b, k * 15 + 10, none⟩ = some (.int .i64 n10) := hc 10 _ rfl
      have z11 : wr.cell? ⟨b, k * 15 + 11, none⟩ = some (.int .i64 n11) := hc 11 _ rfl
      have z12 : wr.cell? ⟨b, k * 15 + 12, none⟩ = some (.int .i64 n12) := hc 12 _ rfl
      have z13 : wr.cell? ⟨b, k * 15 + 13, none⟩ = some (.int .i64 s) := hc 13 _ rfl
      have z14 : wr.cell? ⟨b, k * 15 + 14, none⟩ = some (.slice ua d uc) := hc 14 _ rfl
      have hbr : b < wr.heap.size := Nat.lt_of_lt_of_le hb hB.out.size
      have HOa := Lib.hid (hO.out.below (((Below.refl _ _).alloc (Nat.le_refl _) (.cells #[.int .i64 n0, .int .i64 n1, .int .i64 n2, .int .i64 n3, .int .i64 n4, .int .i64 n5, .int .i64 n6, .int .i64 n7, .string n8, .string n9, .int .i64 n10, .int .i64 n11, .int .i64 n12, .int .i64 s, .slice ua d uc] 38)).alloc (by simp) (.cells #[.int .i64 s, .slice ua d uc] 36)))
      have hz := hB.out.size
      clear hc
      go_wp2_with (refine AtK.app rfl _ _ rfl w.heap.size _ rs rfl HOa.out _ [⟨[.int .i64 s, .slice ua d uc], rfl, by intro v hv; simp at hv; rcases hv with rfl | rfl <;> rfl⟩] rfl (AtK.rd_boxAt _ _ 1 _ _ (by simp)) (by have := HRL.out; simp; omega) (by simp; omega) ?_)
      intro v2 w2 ho2 hb2 hg2 _
      have HO2 := Lib.hid ho2
      have HB2 := Lib.hid ((((hB.out.alloc hz _).alloc (by simp; omega) _).trans hb2))
      clear ho2 hb2 hg2 HOa z0 z1 z2 z3 z4 z5 z6 z7 z8 z9 z10 z11 z12 z13 z14
      go_wp2_with fail
      go_roundw
      case rel => exact ⟨k + 1, v2, _, rfl, by omega, by go_num, HO2, Lib.hid (by rw [HTK.out]; exact HA3.out _ rfl), HB2⟩
      case measure => simp [intOf]; omega
    · have e : k = N := by omega
      subst e
      have hA2 := hA.out
      rw [List.take_of_length_le (by rw [HN.out]; exact Nat.le_refl _)] at hA2
      have HA2 := Lib.hid hA2
      clear hA hA2
      go_wp2
      go_ret
      exact ⟨v, rs, rfl, HA2.out.row hB.out hO.out, hB.out⟩
end Go.Proofs.Ytplplehfkfjhnaa
