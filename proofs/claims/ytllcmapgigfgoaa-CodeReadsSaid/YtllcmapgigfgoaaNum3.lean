/-
  The walks of package num's texts, and of its reader.
-/
import Derived.Test.YtllcmapgigfgoaaNum2
import Derived.Lib.AppendStr
namespace Go.Proofs.Ytllcmapgigfgoaa
open Go.RowKit
set_option linter.unusedSimpArgs false
set_option linter.unusedVariables false

theorem enc_pos (m : Int) : 1 ≤ (enc m).length := by
  unfold enc; rw [encN_succ]; split <;> simp

set_option maxRecDepth 100000 in
set_option maxHeartbeats 1600000 in
theorem wtext_good (b : Nat) (s : ByteArray) (xs : List Int) (w : World) (hW : WrAt w b xs false) (hl : xs.length ≤ 500000000) (hs : s.size ≤ 100000000) :
    Calls Try.prog 111 #[.pointer (some ⟨b, 0, none⟩), .string s] w fun e w' => e = .returned (.pointer (some ⟨b, 0, none⟩)) ∧ WrAt w' b (xs ++ (enc s.size ++ byt s)) false ∧ Below b w w' := by
  obtain ⟨i0, hi, hz0, hz1, hz2⟩ := info_parts infoByte
  have el := enc_length s.size (by omega) (by omega)
  have er := sizeN_range s.size
  go_enter Try.func111, Try.ntmps111
  have ep := enc_pos s.size
  have hL : (xs ++ enc s.size).length ≤ 500000008 := by rw [List.length_append]; omega
  have hL1 : 1 ≤ (xs ++ enc s.size).length := by rw [List.length_append]; omega
  go_wp2_with (first
    | (go_at_call 110; refine (wnum_good b _ xs _ hW (by omega) (by omega) (by omega)).mono ?_; rintro e w1 ⟨rfl, hW1, hb1⟩; obtain ⟨c1, f0, f1, hsz, v, c0, hown⟩ := hW1; have HB1 := Lib.hid hb1; clear hb1)
    | (at_builtin; refine Lib.wpList_append_own_string _ rfl (.tmp 18) (.tmp 19) 49 9 rfl (b + 1) 5 i0 Try.underlying49 Try.underlying9 hi hz0 hz1 hz2 v (xs ++ enc s.size).length (u8v (xs ++ enc s.size)) rfl hown s rfl ?n3 ?n4 ?n5 ?nx))
  case n3 => unfold maxLen; omega
  case n4 => omega
  case n5 => omega
  case nx =>
    intro v2 w2 hown2 hgrow2 _
    have hb2 : Below (b + 1) w1 w2 := ((Below.refl (b + 1) _).grown hgrow2 (by omega) (owns_from8 hown))
    obtain ⟨g2, cap2, N2, hv2, hg2⟩ : ∃ g cap N, v2 = .slice (some ⟨g, 0, none⟩) N cap ∧ b + 1 ≤ g := by
      rcases hown2.2 with ⟨_, h⟩ | ⟨g, cap, cur, h, hgg, _⟩
      · omega
      · exact ⟨g, cap, _, h, hgg⟩
    rw [hv2] at hown2 ⊢
    clear hgrow2
    have k0 := (hb2.cell (p := ⟨b, 0, none⟩) (by simp)).trans c0
    have k1 := (hb2.cell (p := ⟨b, 1, none⟩) (by simp)).trans c1
    have e0 := (hb2.frozen (p := ⟨b, 0, none⟩) (by simp)).trans f0
    have e1 := (hb2.frozen (p := ⟨b, 1, none⟩) (by simp)).trans f1
    have HO := Lib.hid hown2
    clear hown2
    have hbs := Lib.hid (hb2.mono (Nat.le_succ b))
    have hz2' := hb2.size
    go_wp2_with fail
    go_ret
    refine ⟨rfl, ⟨by simp [go_sem, *], by simp [go_sem, *], by simp [go_sem, *], by simp; omega, _, by simp [go_sem, *]; rfl, ?_⟩, HB1.out.trans (hbs.out.trans ((Below.refl b _).setCell (p := ⟨b, 0, none⟩) (Nat.le_refl b) _))⟩
    have hr := ownsRow_setCell_below HO.out (a := ⟨b, 0, none⟩) (by simp) (.slice (some ⟨g2, 0, none⟩) N2 cap2)
    simpa [u8v, byt_cells, Nat.add_assoc, byt_length] using hr
end Go.Proofs.Ytllcmapgigfgoaa
