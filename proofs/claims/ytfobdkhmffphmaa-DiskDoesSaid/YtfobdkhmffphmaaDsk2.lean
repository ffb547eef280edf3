/-
  The walks of package disk: Sync, Dirty.
-/
import Derived.Test.YtfobdkhmffphmaaDsk
namespace Go.Proofs.Ytfobdkhmffphmaa
open Go.RowKit
set_option linter.unusedSimpArgs false
set_option linter.unusedVariables false

theorem DAt.setLast {w : World} {B p : Nat} {v : Value} {bs : List Int} {last : Nat} (h : DAt w B p v bs last) (n : Nat) : DAt (w.setCell ⟨p, 1, none⟩ (.int .i64 n)) B p v bs n := by
  have c0 := h.c0
  have c1 := h.c1
  have f0 := h.f0
  have f1 := h.f1
  exact ⟨by simpa using h.lt, h.low, by simp [go_sem, c0], by simp [go_sem, c1], by simpa [go_sem] using f0, by simpa [go_sem] using f1, h.own.set (fun k hk => h.far k hk) _, h.far, blk_set h.blk _ _⟩
theorem DAt.setBytes {w : World} {B p : Nat} {v v' : Value} {bs bs' : List Int} {last : Nat} (h : DAt w B p v bs last) (ho : Own8 w B v' bs') (hf : ∀ k, v'.ownBlock = some k → k ≠ p) : DAt (w.setCell ⟨p, 0, none⟩ v') B p v' bs' last := by
  have c0 := h.c0
  have c1 := h.c1
  have f0 := h.f0
  have f1 := h.f1
  exact ⟨by simpa using h.lt, h.low, by simp [go_sem, c0], by simp [go_sem, c1], by simpa [go_sem] using f0, by simpa [go_sem] using f1, ho.set (fun k hk => hf k hk) _, hf, blk_set h.blk _ _⟩
def SyP (B p : Nat) (v : Value) (bs : List Int) (w : World) (e : Ending) (w' : World) : Prop := Hid (e = .returned (.tuple #[])) ∧ DAt w' B p v bs bs.length ∧ Foot w w' p v
set_option maxHeartbeats 400000 in
theorem sync_any (B p : Nat) (v : Value) (bs : List Int) (last : Nat) (w : World) (h : DAt w B p v bs last) (hl : bs.length ≤ 1000000000) : Calls Try.prog 7 #[.pointer (some ⟨p, 0, none⟩)] w (SyP B p v bs w) := by
  obtain ⟨a, c, rfl⟩ := h.own.slice
  have H := Lib.hid h
  have c0 := h.c0
  have c1 := h.c1
  have f0 := h.f0
  have f1 := h.f1
  clear h
  go_enter Try.func7, Try.ntmps7
  go_wp2
  go_end0
  exact ⟨rfl, H.out.setLast bs.length, (Foot.refl _ _ _).set 1 _⟩
def DiP (n : Int) (w : World) (e : Ending) (w' : World) : Prop := Hid (e = .returned (.int .i64 n)) ∧ Below w.heap.size w w'
set_option maxHeartbeats 400000 in
theorem dirty_any (B p : Nat) (v : Value) (bs : List Int) (last : Nat) (w : World) (h : DAt w B p v bs last) (hl : bs.length ≤ 1000000000) (hle : last ≤ bs.length) : Calls Try.prog 17 #[.pointer (some ⟨p, 0, none⟩)] w (DiP ((bs.length : Int) - last) w) := by
  obtain ⟨a, c, rfl⟩ := h.own.slice
  have c0 := h.c0
  have c1 := h.c1
  have i1 : (last : Int) ≤ bs.length := by omega
  clear h
  go_enter Try.func17, Try.ntmps17
  go_wp2
  go_quiet (fail)
  go_wp2
  go_ret
  exact ⟨rfl, below_drewN (Below.refl _ _) _⟩
end Go.Proofs.Ytfobdkhmffphmaa
