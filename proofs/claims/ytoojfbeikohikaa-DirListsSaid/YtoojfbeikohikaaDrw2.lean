/-
  The names of a path, with the count of draws.
-/
import Derived.Test.YtoojfbeikohikaaDirP
import Derived.Test.YtoojfbeikohikaaDrw
namespace Go.Proofs.Ytoojfbeikohikaa
open Go.RowKit
set_option linter.unusedSimpArgs false
set_option linter.unusedVariables false

/-- What lay in w lies there still, and no draw was taken back. -/
def Bel (w w' : World) : Prop := Below w.heap.size w w' ∧ w.drawn ≤ w'.drawn
theorem Bel.refl (w : World) : Bel w w := ⟨Below.refl _ _, Nat.le_refl _⟩
theorem Bel.trans {w w1 w2 : World} (h : Bel w w1) (k : Bel w1 w2) : Bel w w2 := ⟨below_self h.1 k.1, Nat.le_trans h.2 k.2⟩
theorem Bel.alloc {w w1 : World} (h : Bel w w1) (o : Obj) : Bel w (w1.alloc o) := ⟨h.1.alloc h.1.size _, h.2⟩
theorem Bel.drew {w w1 : World} (h : Bel w w1) : Bel w w1.drew := ⟨h.1.drew, Nat.le_trans h.2 (Nat.le_succ _)⟩
set_option maxHeartbeats 1000000 in
theorem indexfunc_drw (s : ByteArray) (w : World) : Calls Try.prog 86 #[.string s, .func (.func 54) #[] #[], .bool true] w fun e w' => e = .returned (.int .i64 (Lib.idxFunc oddR true s)) ∧ Bel w w' := by
  go_enter Try.func86, Try.ntmps86
  go_wp2
  go_loopg [] s.size (fun gf wx => ∃ pos : Nat, Hid (wx.heap[w.heap.size]? = some (.stringIter s pos)) ∧ Hid (Bel w wx) ∧ Hid (Lib.idxFuncFrom oddR true s gf pos = Lib.idxFunc oddR true s) ∧ Hid (s.size ≤ pos + gf))
  case atStart => exact ⟨0, Lib.hid (World.iter_heap w s 0), Lib.hid ⟨(Below.refl _ w).alloc (Nat.le_refl _) _, Nat.le_refl _⟩, Lib.hid rfl, Lib.hid (by omega)⟩
  case round =>
    obtain ⟨pos, HI, HB, HL, HF⟩ := hrel
    by_cases hps : pos < s.size
    · have hgk : gk = (gk - 1) + 1 := by have := HF.out; omega
      obtain ⟨n, hn⟩ : ∃ n, gk - 1 = n := ⟨_, rfl⟩
      rw [hn] at hgk
      subst hgk
      have hnx : ∀ ty, (Instr.next (.pointer (some ⟨w.heap.size, 0, none⟩)) true ty).run Try.prog wr = _ := fun ty => Lib.run_next_any_at wr w.heap.size s pos ty HI.out hps
      have hw := Lib.width_pos s pos
      obtain ⟨r, hr⟩ : ∃ r, (Utf8.decode s pos).1 = r := ⟨_, rfl⟩
      obtain ⟨k, hk⟩ : ∃ k, (Utf8.decode s pos).2 = k := ⟨_, rfl⟩
      have hl := HL.out
      simp only [Lib.idxFuncFrom, hps, if_true, hr, hk] at hl
      rw [hr, hk] at hnx
      rw [hk] at hw
      have hI2 := Lib.hid (Lib.iterAt_heap wr w.heap.size s pos (pos + k) HI.out)
      have hB2 : Hid (Bel w (wr.iterAt w.heap.size s (pos + k))) := Lib.hid ⟨Lib.below_iterAt HB.out.1 (k := w.heap.size) (Nat.le_refl _) s (pos + k), HB.out.2⟩
      have HF2 : Hid (s.size ≤ pos + k + n) := Lib.hid (by have := HF.out; omega)
      obtain ⟨W, hW⟩ : ∃ W, wr.iterAt w.heap.size s (pos + k) = W := ⟨_, rfl⟩
      rw [hW] at hnx hI2 hB2
      have hc := odd_any r W
      obtain ⟨T, hT⟩ : ∃ T, oddR r = T := ⟨_, rfl⟩
      rw [hT] at hc hl
      have HC := Lib.hid hc
      have HLL := Lib.hid hl
      clear hc hl HI HB HL HF hT hr hk hW hn hw hps
      cases T with
      | true =>
        go_wp2_with (go_at_call 54; refine HC.out.mono ?_; rintro e W' ⟨rfl, rfl⟩)
        go_ret
        exact ⟨by rw [← HLL.out]; rfl, hB2.out⟩
      | false =>
        go_wp2_with (go_at_call 54; refine HC.out.mono ?_; rintro e W' ⟨rfl, rfl⟩)
        go_roundg n
        case measure => omega
        case rel => exact ⟨pos + k, hI2, hB2, Lib.hid (by have := HLL.out; simpa using this), HF2⟩
    · have hnx : ∀ ty, (Instr.next (.pointer (some ⟨w.heap.size, 0, none⟩)) true ty).run Try.prog wr = _ := fun ty => Lib.run_next_end_at wr w.heap.size s pos ty HI.out hps
      have hl := HL.out
      rw [Lib.idxFuncFrom_end oddR true s gk pos hps] at hl
      have HLL := Lib.hid hl
      clear hl hps HI HL HF
      go_wp2
      go_ret
      exact ⟨by rw [← HLL.out]; rfl, HB.out⟩
end Go.Proofs.Ytoojfbeikohikaa
