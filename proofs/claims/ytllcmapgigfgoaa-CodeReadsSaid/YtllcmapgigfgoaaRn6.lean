/-
  The walks of package num's reader: a number, and a text.
-/
import Derived.Test.YtllcmapgigfgoaaNum5
import Derived.Test.YtllcmapgigfgoaaFt
import Derived.RegionTactic
import Derived.ChangeAlike
import Derived.BigRegion
namespace Go.Proofs.Ytllcmapgigfgoaa
open Go.RowKit
set_option linter.unusedSimpArgs false
set_option linter.unusedVariables false

/-- What block b's first cell leads to is of the block of which it was. -/
def Sb (b : Nat) (w w' : World) : Prop := ∀ ad n cap, w'.cell? ⟨b, 0, none⟩ = some (.slice (some ad) n cap) → ∃ ad0 n0 cap0, w.cell? ⟨b, 0, none⟩ = some (.slice (some ad0) n0 cap0) ∧ ad0.block = ad.block
/-- Only block b is written, and leads to where it led. -/
structure Onl (b : Nat) (w w' : World) : Prop where
  ft : Foot w w' b (.slice none 0 0)
  sb : Sb b w w'
theorem Onl.refl (b : Nat) (w : World) : Onl b w w := ⟨Foot.refl _ _ _, fun ad n cap h => ⟨ad, n, cap, h, rfl⟩⟩
theorem Onl.set {b : Nat} {w w' : World} (h : Onl b w w') (o : Nat) (u : Value) (ho : 0 < o := by decide) : Onl b w (w'.setCell ⟨b, o, none⟩ u) :=
  ⟨Foot.set h.ft o u, fun ad n cap hc => h.sb ad n cap (by
    have ne : (⟨b, o, none⟩ : Addr) ≠ ⟨b, 0, none⟩ := fun q => by cases q; omega
    rwa [World.cell?_setCell_other (h := ne)] at hc)⟩
theorem Onl.set0 {b : Nat} {w w' : World} (h : Onl b w w') {a a' : Option Addr} {n cap n' cap' : Nat} (c0 : w.cell? ⟨b, 0, none⟩ = some (.slice a n cap)) (ha : ∀ ad', a' = some ad' → ∃ ad, a = some ad ∧ ad.block = ad'.block)
    (hu : ∃ u, w'.cell? ⟨b, 0, none⟩ = some u) : Onl b w (w'.setCell ⟨b, 0, none⟩ (.slice a' n' cap')) :=
  ⟨Foot.set h.ft 0 _, fun ad m c hc => by
    obtain ⟨u, hu⟩ := hu
    have e : (w'.setCell ⟨b, 0, none⟩ (.slice a' n' cap')).cell? ⟨b, 0, none⟩ = some (.slice a' n' cap') := by simp [go_sem, hu]
    rw [e] at hc
    simp only [Option.some.injEq, Value.slice.injEq] at hc
    obtain ⟨ad0, q1, q2⟩ := ha ad hc.1
    exact ⟨ad0, n, cap, by rw [c0, q1], q2⟩⟩
theorem Onl.drew {b : Nat} {w w' : World} (h : Onl b w w') : Onl b w w'.drew := ⟨⟨h.ft.os, h.ft.tape, h.ft.output, h.ft.size, h.ft.block⟩, h.sb⟩

set_option maxHeartbeats 1600000 in
theorem rnum_wrong (b : Nat) (xs : List Int) (er : Int) (w : World) (h : RdAt w b xs er) (he : er ≠ 0) :
    Calls Try.prog 116 #[.pointer (some ⟨b, 0, none⟩)] w fun e w' => e = .returned (.int .i64 0) ∧ w = w' := by
  obtain ⟨c1, f0, f1, hs, ⟨a, cap, c0, hb, hn⟩, ha⟩ := h
  have HA := Lib.hid ha
  clear ha hn hb
  have q : (er == 0) = false := by simpa using he
  go_enter Try.func116, Try.ntmps116
  go_wp2
  go_ret
  exact ⟨rfl, rfl⟩

theorem brd_drop {w : World} {g off k : Nat} {xs : List Int} (h : BRd w (some ⟨g, off, none⟩) xs) (hk : k ≤ xs.length) : BRd w (some ⟨g, off + k, none⟩) (xs.drop k) := by
  obtain ⟨h1, h2⟩ := h
  refine ⟨by simp; omega, ?_⟩
  rcases h2 with h2 | ⟨g2, off2, ha, hg, hc⟩
  · subst h2; simp at hk; subst hk; exact .inl rfl
  · cases ha
    refine .inr ⟨g, off + k, rfl, hg, fun i hi => ?_⟩
    have hi2 : k + i < xs.length := by simp at hi; omega
    have := hc (k + i) hi2
    rw [show off + k + i = off + (k + i) from by omega, this]
    simp [List.getD]
theorem brd_set {w : World} {b o : Nat} {v : Value} {a : Option Addr} {xs : List Int} (h : BRd w a xs) (hne : ∀ x, a = some x → x.block ≠ b) : BRd (w.setCell ⟨b, o, none⟩ v) a xs := by
  obtain ⟨h1, h2⟩ := h
  refine ⟨h1, ?_⟩
  rcases h2 with h2 | ⟨g, off, rfl, hg, hc⟩
  · exact .inl h2
  · refine .inr ⟨g, off, rfl, by simpa using hg, fun i hi => ?_⟩
    have := hne _ rfl
    have ne : (⟨b, o, none⟩ : Addr) ≠ ⟨g, off + i, none⟩ := fun q => this (by cases q; rfl)
    rw [World.cell?_setCell_other (h := ne)]; exact hc i hi
theorem brd_drew {w : World} {a : Option Addr} {xs : List Int} (h : BRd w a xs) : BRd w.drew a xs := h

set_option maxHeartbeats 4000000 in
theorem rnum_some (b g off cap k : Nat) (xs : List Int) (n er : Int) (w : World) (h : RdAt w b xs 0) (hx : ∀ x ∈ xs, 0 ≤ x ∧ x ≤ 255) (hN : numG 8 0 0 xs = (n, (k : Int), er)) (k4 : k ≤ xs.length) (hcap : xs.length ≤ cap) (k2 : ¬ k = cap)
    (c0 : w.cell? ⟨b, 0, none⟩ = some (.slice (some ⟨g, off, none⟩) xs.length cap)) (hb : BRd w (some ⟨g, off, none⟩) xs) (hgb : g ≠ b) (hcm : cap ≤ 9223372036854775807) :
    Calls Try.prog 116 #[.pointer (some ⟨b, 0, none⟩)] w fun e w' => e = .returned (.int .i64 n) ∧ RdAt w' b (xs.drop k) er ∧ Onl b w w' := by
  obtain ⟨c1, f0, f1, hs, _, _⟩ := h
  have HB := Lib.hid hb
  have HX := Lib.hid hx
  have r1 := congrArg (fun t => t.1) hN
  have r2 := congrArg (fun t => t.2.1) hN
  have r3 := congrArg (fun t => t.2.2) hN
  simp only at r1 r2 r3
  have R1 := Lib.hid r1
  have R2 := Lib.hid r2
  have R3 := Lib.hid r3
  clear hb hx hN r1 r2 r3
  have k1 : k ≤ cap := by omega
  have k3 : ¬ cap = k := by omega
  go_enter Try.func116, Try.ntmps116
  go_wp2_with (go_at_call 118; refine (number_any _ _ xs _ HB.out HX.out).mono ?_; rw [R1.out, R2.out, R3.out]; rintro e w1 ⟨rfl, rfl⟩)
  go_region
  all_goals
    go_wp2
    go_ret
    have hd : (xs.drop k).length = xs.length - k := by simp
    refine ⟨rfl, ⟨by simp [go_sem, *], by simp [go_sem, *], by simp [go_sem, *], by simpa using hs, ⟨some ⟨g, off + k, none⟩, cap - k, by rw [hd]; simp [go_sem, *], ?_, (fun q => by cases q), by rw [hd]; omega, by omega, fun x q => by cases q; rfl⟩, ?_⟩, ?_⟩
    · exact brd_set (brd_set (brd_drew (brd_drop HB.out k4)) (fun x q => by cases q; exact hgb)) (fun x q => by cases q; exact hgb)
    · intro a2 cap2 hc
      rw [hd] at hc
      simp [go_sem, *] at hc
      rw [← hc.1]; exact hgb
    · exact (((Onl.refl b _).drew).set 1 _).set0 c0 (by intro ad' q; cases q <;> exact ⟨_, rfl, rfl⟩) (by simp [go_sem, c0])

set_option maxHeartbeats 4000000 in
/-- All is read, and the row has no spare room: the address stays. -/
theorem rnum_full (b g off : Nat) (xs : List Int) (n er : Int) (w : World) (h : RdAt w b xs 0) (hx : ∀ x ∈ xs, 0 ≤ x ∧ x ≤ 255) (hN : numG 8 0 0 xs = (n, (xs.length : Int), er))
    (c0 : w.cell? ⟨b, 0, none⟩ = some (.slice (some ⟨g, off, none⟩) xs.length xs.length)) (hb : BRd w (some ⟨g, off, none⟩) xs) (hgb : g ≠ b) (hcm : xs.length ≤ 9223372036854775807) :
    Calls Try.prog 116 #[.pointer (some ⟨b, 0, none⟩)] w fun e w' => e = .returned (.int .i64 n) ∧ RdAt w' b [] er ∧ Onl b w w' := by
  obtain ⟨c1, f0, f1, hs, _, _⟩ := h
  have HB := Lib.hid hb
  have HX := Lib.hid hx
  have r1 := congrArg (fun t => t.1) hN
  have r2 := congrArg (fun t => t.2.1) hN
  have r3 := congrArg (fun t => t.2.2) hN
  simp only at r1 r2 r3
  have R1 := Lib.hid r1
  have R2 := Lib.hid r2
  have R3 := Lib.hid r3
  clear hb hx hN r1 r2 r3
  go_enter Try.func116, Try.ntmps116
  go_wp2_with (go_at_call 118; refine (number_any _ _ xs _ HB.out HX.out).mono ?_; rw [R1.out, R2.out, R3.out]; rintro e w1 ⟨rfl, rfl⟩)
  go_region
  all_goals
    go_wp2
    go_ret
    refine ⟨rfl, ⟨by simp [go_sem, *], by simp [go_sem, *], by simp [go_sem, *], by simpa using hs, ⟨some ⟨g, off, none⟩, 0, by simp [go_sem, *], ⟨by simp, .inl rfl⟩, (fun q => by cases q), by simp, by omega, fun x q => by cases q; rfl⟩, ?_⟩, ?_⟩
    · intro a2 cap2 hc
      simp [go_sem, *] at hc
      rw [← hc.1]; exact hgb
    · exact (((Onl.refl b _).drew).set 1 _).set0 c0 (by intro ad' q; cases q <;> exact ⟨_, rfl, rfl⟩) (by simp [go_sem, c0])

set_option maxHeartbeats 4000000 in
theorem rnum_none (b : Nat) (w : World) (h : RdAt w b [] 0) (c0 : w.cell? ⟨b, 0, none⟩ = some (.slice none 0 0)) :
    Calls Try.prog 116 #[.pointer (some ⟨b, 0, none⟩)] w fun e w' => e = .returned (.int .i64 0) ∧ RdAt w' b [] 10 ∧ Onl b w w' := by
  obtain ⟨c1, f0, f1, hs, _, _⟩ := h
  have hb : BRd w none [] := ⟨by simp, .inl rfl⟩
  have HB := Lib.hid hb
  clear hb
  go_enter Try.func116, Try.ntmps116
  go_wp2_with (go_at_call 118; refine (number_any none 0 [] _ HB.out (by simp)).mono ?_; rw [show (numG 8 0 0 []).1 = 0 from rfl, show (numG 8 0 0 []).2.1 = 0 from rfl, show (numG 8 0 0 []).2.2 = 10 from rfl]; rintro e w1 ⟨rfl, rfl⟩)
  go_region
  all_goals
    go_wp2
    go_ret
    refine ⟨rfl, ⟨by simp [go_sem, *], by simp [go_sem, *], by simp [go_sem, *], by simpa using hs, ⟨none, 0, by simp [go_sem, *], ⟨by simp, .inl rfl⟩, (fun _ => rfl), by simp, by omega, fun x q => by cases q⟩, ?_⟩, ?_⟩
    · intro a2 cap2 hc
      simp [go_sem, *] at hc
    · exact (((Onl.refl b _).drew).set 1 _).set0 c0 (by intro ad' q; cases q <;> exact ⟨_, rfl, rfl⟩) (by simp [go_sem, c0])

/-- How far number goes. -/
theorem numG_far : ∀ (f i : Nat) (acc : Int) (l : List Int), (numG f i acc l).2.1 = 0 ∨ ∃ j : Nat, (numG f i acc l).2.1 = (j : Int) ∧ i < j ∧ j ≤ i + l.length
  | 0, _, _, _ => .inl rfl
  | _ + 1, _, _, [] => .inl rfl
  | f + 1, i, acc, x :: r => by
    unfold numG
    split
    · rcases numG_far f (i + 1) (acc + 128 ^ i * (x % 128)) r with h | ⟨j, h, h1, h2⟩
      · exact .inl h
      · exact .inr ⟨j, h, by omega, by simp; omega⟩
    · split
      · exact .inr ⟨i + 1, by simp, by omega, by simp⟩
      · exact .inl rfl

/-- Reader.Num, whatever the reader has left. -/
theorem rnum_any (b : Nat) (xs : List Int) (w : World) (h : RdAt w b xs 0) (hx : ∀ x ∈ xs, 0 ≤ x ∧ x ≤ 255) :
    Calls Try.prog 116 #[.pointer (some ⟨b, 0, none⟩)] w fun e w' => e = .returned (.int .i64 (numG 8 0 0 xs).1) ∧ RdAt w' b (xs.drop (numG 8 0 0 xs).2.1.toNat) (numG 8 0 0 xs).2.2 ∧ Onl b w w' := by
  obtain ⟨a, cap, c0, hb, f1, f2, f3, f4⟩ := h.left
  have hk : ∃ k : Nat, (numG 8 0 0 xs).2.1 = (k : Int) ∧ k ≤ xs.length := by
    rcases numG_far 8 0 0 xs with q | ⟨j, q, _, q2⟩
    · exact ⟨0, by rw [q]; rfl, by omega⟩
    · exact ⟨j, q, by omega⟩
  obtain ⟨k, hk1, hk2⟩ := hk
  have hN : numG 8 0 0 xs = ((numG 8 0 0 xs).1, (k : Int), (numG 8 0 0 xs).2.2) := by rw [← hk1]
  cases a with
  | none =>
    obtain rfl := f1 rfl
    have hx0 : xs = [] := List.eq_nil_of_length_eq_zero (by omega)
    subst hx0
    exact (rnum_none b w h c0).mono fun e w' q => ⟨q.1, by simpa [numG] using q.2.1, q.2.2⟩
  | some ad =>
    have hap := h.apart ad cap c0
    obtain ⟨g, off, spot⟩ := ad
    have hsp : spot = none := f4 _ rfl
    subst hsp
    rw [hk1]
    by_cases hc : k = cap
    · have hl : cap = xs.length := by omega
      subst hl
      subst hc
      have := rnum_full b g off xs _ _ w h hx hN c0 hb hap (by omega)
      refine this.mono fun e w' q => ⟨q.1, ?_, q.2.2⟩
      have e : xs.drop ((xs.length : Int)).toNat = [] := by simp
      rw [e]; exact q.2.1
    · have := rnum_some b g off cap k xs _ _ w h hx hN hk2 f2 hc c0 hb hap f3
      refine this.mono fun e w' q => ⟨q.1, ?_, q.2.2⟩
      rw [Int.toNat_natCast]; exact q.2.1
end Go.Proofs.Ytllcmapgigfgoaa
