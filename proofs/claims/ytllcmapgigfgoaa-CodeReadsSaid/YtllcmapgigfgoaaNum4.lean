/-
  The walks of package num's reader: how one is made, what is left, and whether all was right.
-/
import Derived.Test.YtllcmapgigfgoaaNum3
namespace Go.Proofs.Ytllcmapgigfgoaa
open Go.RowKit
set_option linter.unusedSimpArgs false
set_option linter.unusedVariables false

/-- A row of bytes that a call has made can be read. -/
theorem brd_of_owns {w : World} {base : Nat} {v : Value} {xs : List Int} (h : w.ownsRow base 5 1 v xs.length (u8v xs)) (hl : xs.length ≤ 9223372036854775807) :
    ∃ (a : Option Addr) (cap : Nat), v = .slice a xs.length cap ∧ BRd w a xs ∧ Fits a xs cap := by
  obtain ⟨_, h | ⟨g, cap, cur, rfl, hg, hh, hn, hmx, hs, hx⟩⟩ := h
  · obtain ⟨rfl, h0⟩ := h
    exact ⟨none, 0, by rw [h0], ⟨hl, .inl (List.eq_nil_of_length_eq_zero h0)⟩, fun _ => rfl, by omega, by omega, fun x q => by cases q⟩
  · refine ⟨some ⟨g, 0, none⟩, cap, rfl, ⟨hl, ?_⟩, (fun h => by cases h), hn, (by unfold maxLen at hmx; omega), (fun x q => by cases q; rfl)⟩
    by_cases h0 : xs = []
    · exact .inl h0
    · refine .inr ⟨g, 0, rfl, ?_, fun i hi => ?_⟩
      · by_cases q : g < w.heap.size
        · exact q
        · have : w.heap[g]? = none := by simp; omega
          rw [this] at hh; cases hh
      · have e : cur[i]? = some (.int .u8 (xs.getD i 0)) := by
          have h1 : (cur.toList.take (xs.length * 1))[i]? = (u8v xs)[i]? := by rw [hx]
          rw [List.getElem?_take, if_pos (by omega)] at h1
          rw [← Array.getElem?_toList, h1]
          simp [List.getD, hi]
        simp [World.cell?, hh, e]
/-- A reader that lies in block b: what is left, and what is wrong. -/
structure RdAt (w : World) (b : Nat) (xs : List Int) (er : Int) : Prop where
  wrong : w.cell? ⟨b, 1, none⟩ = some (.int .i64 er)
  free0 : w.frozen? ⟨b, 0, none⟩ = false
  free1 : w.frozen? ⟨b, 1, none⟩ = false
  size : b < w.heap.size
  left : ∃ a cap, w.cell? ⟨b, 0, none⟩ = some (.slice a xs.length cap) ∧ BRd w a xs ∧ Fits a xs cap
  apart : ∀ a cap, w.cell? ⟨b, 0, none⟩ = some (.slice (some a) xs.length cap) → a.block ≠ b

def endN (xs : List Int) (er : Int) : Int := if er = 0 ∧ 0 < xs.length then 11 else er
set_option maxHeartbeats 1600000 in
theorem end_any (b : Nat) (xs : List Int) (er : Int) (w : World) (h : RdAt w b xs er) :
    Calls Try.prog 77 #[.pointer (some ⟨b, 0, none⟩)] w fun e w' => e = .returned (.int .i64 (endN xs er)) ∧ w = w' := by
  obtain ⟨c1, f0, f1, hs, ⟨a, cap, c0, hb, hn⟩, ha⟩ := h
  have HA := Lib.hid ha
  clear ha hn hb
  by_cases g : er = 0
  · subst g
    by_cases g2 : 0 < xs.length
    · have e : endN xs 0 = 11 := by unfold endN; rw [if_pos ⟨rfl, g2⟩]
      rw [e]
      have p : (0 : Int) < (xs.length : Int) := by omega
      go_enter Try.func77, Try.ntmps77
      go_wp2
      go_ret
      exact ⟨rfl, rfl⟩
    · have hx : xs = [] := List.eq_nil_of_length_eq_zero (by omega)
      subst hx
      have e : endN [] 0 = 0 := by simp [endN]
      rw [e]
      go_enter Try.func77, Try.ntmps77
      go_wp2
      go_ret
      exact ⟨rfl, rfl⟩
  · have e : endN xs er = er := by simp [endN, g]
    rw [e]
    have q : (er == 0) = false := by simpa using g
    go_enter Try.func77, Try.ntmps77
    go_wp2
    go_ret
    exact ⟨rfl, rfl⟩

/-- What Of hands back: a reader of all the bytes, in memory of its own. -/
def OfPost (xs : List Int) (w : World) (e : Ending) (w' : World) : Prop := ∃ b : Nat, e = .returned (.pointer (some ⟨b, 0, none⟩)) ∧ w.heap.size ≤ b ∧ RdAt w' b xs 0 ∧ Below w.heap.size w w'
theorem rdat_box {w : World} {a : Option Addr} {cap : Nat} {xs : List Int} {t : TypeId} (h : BRd w a xs) (hn : Fits a xs cap) (hlt : ∀ ad, a = some ad → ad.block < w.heap.size) :
    RdAt (w.alloc (.cells #[.slice a xs.length cap, .int .i64 0] t)) w.heap.size xs 0 := by
  refine ⟨by simp [go_sem], by simp [go_sem], by simp [go_sem], by simp, ⟨a, cap, by simp [go_sem], h.below ((Below.refl _ _).alloc (Nat.le_refl _) _), hn⟩, ?_⟩
  intro ad cap2 hc
  have e : (w.alloc (.cells #[.slice a xs.length cap, .int .i64 0] t)).cell? ⟨w.heap.size, 0, none⟩ = some (.slice a xs.length cap) := by simp [go_sem]
  rw [e] at hc
  simp at hc
  have := hlt ad hc.1
  omega

set_option maxHeartbeats 1600000 in
theorem of_any (a : Option Addr) (cap : Nat) (xs : List Int) (w : World) (hr : BRd w a xs) (hn : Fits a xs cap) (hl : xs.length ≤ 1000000000) :
    Calls Try.prog 60 #[.slice a xs.length cap] w (OfPost xs w) := by
  obtain ⟨i0, hi, hz0, hz1, hz2⟩ := info_parts infoByte
  cases a with
  | none =>
    obtain rfl := hn.1 rfl
    have hx : xs = [] := by
      rcases hr.2 with h | ⟨g, off, h, _⟩
      · exact h
      · cases h
    subst hx
    have HR := Lib.hid hr
    clear hr
    go_enter Try.func60, Try.ntmps60
    go_wp2_with (at_builtin; refine wpList_append_own_none rfl (.const (.slice none 0 0)) (.tmp 3) 49 rfl w.heap.size 5 i0 1 Try.underlying49 hi (.slice none 0 0) 0 [] rfl ⟨rfl, .inl ⟨rfl, rfl⟩⟩ rfl ?_)
    go_ret
    exact ⟨_, rfl, Nat.le_refl _, rdat_box HR.out hn (fun ad h => by cases h), (Below.refl _ _).alloc (Nat.le_refl _) _⟩
  | some ad =>
    have HN := Lib.hid (brd_news hr)
    clear hr hn
    go_enter Try.func60, Try.ntmps60
    go_wp2_with (at_builtin; refine wpList_append_own _ rfl (.const (.slice none 0 0)) (.tmp 3) 49 rfl w.heap.size 5 i0 (.int .u8 0) 1 1 Try.underlying49 hi hz0 hz1 hz2 rfl (by decide) (.slice none 0 0) 0 [] rfl ⟨rfl, .inl ⟨rfl, rfl⟩⟩ ad xs.length cap (u8v xs) rfl (by simp) ?n1 ?n2 ?n3 ?n4 ?n5 ?nx)
    case n1 => exact HN.out
    case n2 => intro u hu; simp at hu; obtain ⟨x, _, rfl⟩ := hu; rfl
    case n3 => unfold maxLen; omega
    case n4 => omega
    case n5 => exact Nat.le_refl _
    case nx =>
      intro v2 w2 hown2 hgrow2 _
      have hown3 : w2.ownsRow w.heap.size 5 1 v2 xs.length (u8v xs) := by simpa using hown2
      obtain ⟨a2, cap2, hv2, hb2, hn2⟩ := brd_of_owns hown3 (by omega)
      have hlt : ∀ ad2, a2 = some ad2 → ad2.block < w2.heap.size := by
        intro ad2 h
        rcases hown3.2 with ⟨h1, _⟩ | ⟨g, c, cur, h1, hg, hh, _⟩
        · rw [hv2, h] at h1; cases h1
        · rw [hv2, h] at h1
          simp at h1
          rw [h1.1]
          by_cases q : g < w2.heap.size
          · exact q
          · have : w2.heap[g]? = none := by simp; omega
            rw [this] at hh; cases hh
      have HB := Lib.hid ((Below.refl w.heap.size w).grown hgrow2 (Nat.le_refl _) (fun k h => by cases h))
      have hsz := HB.out.size
      rw [hv2]
      have H2 := Lib.hid hb2
      have N2 := Lib.hid hn2
      have L2 := Lib.hid hlt
      clear hown2 hown3 hgrow2 hb2 hn2 hlt hv2
      go_wp2_with fail
      go_ret
      exact ⟨_, rfl, hsz, rdat_box H2.out N2.out L2.out, HB.out.trans ((Below.refl _ _).alloc hsz _)⟩
end Go.Proofs.Ytllcmapgigfgoaa
