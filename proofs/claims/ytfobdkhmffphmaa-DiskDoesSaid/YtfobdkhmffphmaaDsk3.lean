/-
  The walks of package disk: what copies, and what makes a disk.
-/
import Derived.Test.YtfobdkhmffphmaaDsk2
namespace Go.Proofs.Ytfobdkhmffphmaa
open Go.RowKit
set_option linter.unusedSimpArgs false
set_option linter.unusedVariables false

def CpP (bs : List Int) (w : World) (e : Ending) (w' : World) : Prop := ∃ v', Hid (e = .returned v') ∧ Own8 w' w.heap.size v' bs ∧ Below w.heap.size w w'
/-- 'make([]byte, n)'. -/
theorem run_make_nn (w : World) (n : Nat) (hn : n ≤ 1000000000) : (Instr.makeSlice 27 (.int .i64 n) (.int .i64 n)).run Try.prog w = .ok (.slice (some ⟨w.heap.size, 0, none⟩) n n) (w.alloc (.cells (madeCells #[Value.int .u8 0] n) 5)) := by
  obtain ⟨i0, hi, hz0, hz1, hz2⟩ := info_parts info8
  have hr := run_make (P := Try.prog) w 27 5 i0 (.int .u8 0) Try.underlying27 hi hz0 .i64 .i64 (n : Int) (n : Int) (by omega) (Int.le_refl _) (by rw [hz2]; omega) (by omega)
  simpa [hz1, Value.cells] using hr
set_option maxHeartbeats 1000000 in
theorem copied_any (v : Value) (bs : List Int) (w : World) (h : Bt w v bs) (hl : bs.length ≤ 1000000000) : Calls Try.prog 19 #[v] w (CpP bs w) := by
  have hmk := fun (w : World) => run_make_nn w bs.length hl
  obtain ⟨a, c, rfl, h1, h2⟩ := h.row
  have hA : Below w.heap.size w (w.alloc (.cells (madeCells #[Value.int .u8 0] bs.length) 5)) := (Below.refl _ _).alloc (Nat.le_refl _) _
  have hsrc : Hid (0 < (u8v bs).length → (some ⟨w.heap.size, 0, none⟩ : Option Addr) = some ⟨w.heap.size, 0, none⟩ ∧ ∃ ad, a = some ad ∧ ∀ j u, (u8v bs)[j]? = some u → (w.alloc (.cells (madeCells #[Value.int .u8 0] bs.length) 5)).cell? (ad.add j) = some u) := Lib.hid (fun h0 => ⟨rfl, by
    have h3 := h1.below hA
    cases a with
    | none =>
      rcases h1.2 with q | ⟨g, off, ha, _⟩
      · subst q; simp at h0
      · cases ha
    | some ad => exact ⟨ad, rfl, brd_news h3⟩⟩)
  have hsz : (madeCells #[Value.int .u8 0] bs.length).size = bs.length := size_madeCells _ _
  have HSZ := Lib.hid hsz
  have hg : Hid ((w.alloc (.cells (madeCells #[Value.int .u8 0] bs.length) 5)).heap[w.heap.size]? = some (.cells (madeCells #[Value.int .u8 0] bs.length).toList.toArray 5 (0, 0))) := Lib.hid (by rw [Array.toArray_toList]; exact heap_alloc_new w _)
  have HA := Lib.hid hA
  have i8 : (Try.prog.info? 5).map (·.size) = some 1 := by kernel_rfl
  have hmn : Hid ((u8v bs).length = Nat.min bs.length bs.length) := Lib.hid (by rw [List.length_map]; exact (Nat.min_self _).symm)
  have hfit : Hid (0 + (u8v bs).length ≤ (madeCells #[Value.int .u8 0] bs.length).toList.length) := Lib.hid (by
    have e : (madeCells #[Value.int .u8 0] bs.length).toList.length = bs.length := by rw [Array.length_toList]; exact HSZ.out
    rw [e]; simp)
  have hone : Hid (∀ u ∈ u8v bs, u.oneCell' = true) := Lib.hid (by intro u hu; simp at hu; obtain ⟨z, _, rfl⟩ := hu; rfl)
  clear h h1 h2 hA hsz
  go_enter Try.func19, Try.ntmps19
  go_wp2_with (refine wpList_copy_splice rfl (.tmp 7) (.tmp 8) 27 27 rfl 5 Try.underlying27 i8 (some ⟨w.heap.size, 0, none⟩) a bs.length bs.length bs.length c rfl rfl w.heap.size 0 (madeCells #[Value.int .u8 0] bs.length).toList 5 hg.out (u8v bs) hmn.out hsrc.out hfit.out hone.out w.heap.size w HA.out (Nat.le_refl _) ?_)
  intro w' hg' hb'
  have hw : Own8 w' w.heap.size (.slice (some ⟨w.heap.size, 0, none⟩) bs.length bs.length) bs := by
    have e : splice (madeCells #[Value.int .u8 0] bs.length).toList 0 (u8v bs) = u8v bs := by
      simp [splice, HSZ.out]
    rw [e] at hg'
    exact ⟨by simp, .inr ⟨w.heap.size, bs.length, _, rfl, Nat.le_refl _, hg'.out, Nat.le_refl _, by unfold maxLen; omega, by simp, by rw [List.take_of_length_le (by simp)]⟩⟩
  have HW := Lib.hid hw
  have HB := Lib.hid hb'
  clear hw hg' hb'
  go_wp2
  go_ret
  exact ⟨_, rfl, HW.out, HB.out⟩
def NwP (bs : List Int) (w : World) (e : Ending) (w' : World) : Prop := ∃ p v, Hid (e = .returned (.pointer (some ⟨p, 0, none⟩))) ∧ DAt w' w.heap.size p v bs bs.length ∧ Below w.heap.size w w'
set_option maxHeartbeats 400000 in
theorem dnew_any (w : World) : Calls Try.prog 18 #[] w (NwP [] w) := by
  have hh := heap_alloc_new w (.cells #[.slice none 0 0, .int .i64 0] 48)
  have HH := Lib.hid hh
  clear hh
  go_enter Try.func18, Try.ntmps18
  go_wp2
  go_ret
  exact ⟨_, .slice none 0 0, rfl, ⟨by simp, Nat.le_refl _, by simp [go_sem], by simp [go_sem], by simp [go_sem], by simp [go_sem], Own8.nil _ _, (fun k hk => by cases hk), ⟨_, _, HH.out⟩⟩, (Below.refl _ _).alloc (Nat.le_refl _) _⟩
set_option maxHeartbeats 400000 in
theorem dof_any (v : Value) (bs : List Int) (w : World) (h : Bt w v bs) (hl : bs.length ≤ 1000000000) : Calls Try.prog 6 #[v] w (NwP bs w) := by
  have H := Lib.hid h
  obtain ⟨a, c, rfl, _⟩ := h.row
  clear h
  go_enter Try.func6, Try.ntmps6
  go_wp2_with fail
  refine (copied_any _ bs _ H.out hl).mono ?_
  rintro e w1 ⟨v1, he, ho, hb⟩
  subst he
  obtain ⟨a1, c1, rfl⟩ := ho.slice
  have HO := Lib.hid ho
  have HB := Lib.hid hb
  have hz := hb.size
  have hh := heap_alloc_new w1 (.cells #[.slice a1 bs.length c1, .int .i64 bs.length] 48)
  have HH := Lib.hid hh
  clear ho hb hh
  go_wp2
  go_ret
  exact ⟨_, _, rfl, ⟨by simp, hz, by simp [go_sem], by simp [go_sem], by simp [go_sem], by simp [go_sem], HO.out.below ((Below.refl _ _).alloc (Nat.le_refl _) _), (fun k hk => by have := HO.out.lt k hk; omega), ⟨_, _, HH.out⟩⟩, HB.out.alloc hz _⟩
set_option maxHeartbeats 400000 in
theorem dbytes_any (B p : Nat) (v : Value) (bs : List Int) (last : Nat) (w : World) (h : DAt w B p v bs last) (hl : bs.length ≤ 1000000000) : Calls Try.prog 16 #[.pointer (some ⟨p, 0, none⟩)] w (CpP bs w) := by
  have H := Lib.hid h
  obtain ⟨a, c, rfl⟩ := h.own.slice
  have c0 := h.c0
  clear h
  go_enter Try.func16, Try.ntmps16
  go_wp2_with fail
  refine (copied_any _ bs _ (H.out.bt hl) hl).mono ?_
  rintro e w1 ⟨v1, he, ho, hb⟩
  subst he
  have HO := Lib.hid ho
  have HB := Lib.hid hb
  clear ho hb
  go_wp2
  go_ret
  exact ⟨_, rfl, HO.out, HB.out⟩
end Go.Proofs.Ytfobdkhmffphmaa
