/-
  Texts put together: Dl3.
-/
import Derived.Test.YtodcmhmankmaoaaGreatJ6
import Derived.Test.YtodcmhmankmaoaaGreatJ5b
namespace Go.Proofs.YtodcmhmankmaoaaGreat
open Go.RowKit
set_option linter.unusedSimpArgs false
set_option linter.unusedVariables false

theorem len_any (d bk K : Nat) (l : List E3) (w : World) (hd : DirAt w d bk K l) : Calls Tryz.prog 13 #[dP d] w fun e w' => e = .returned (.int .i64 l.length) ∧ Below w.heap.size w w' := by
  obtain ⟨D, m, hm, hM, hI⟩ := hd.map
  have c0 := hd.cell
  have HM := Lib.hid hM
  have HS := Lib.hid hI.size
  clear hM hI hd hm
  go_enter Tryz.func13, Tryz.ntmps13
  go_wp2_with (at_len; refine wpList_len_own _ rfl _ 69 rfl 9 68 Tryz.underlying69 heldElem bk m D rfl HM.out ?_; rw [HS.out])
  go_ret
  exact ⟨rfl, Below.refl _ _⟩
set_option maxRecDepth 100000 in
set_option maxHeartbeats 2000000 in
theorem works_any (w : World) (hm : ML w) : Calls Tryz.prog 5 #[] w fun e w' => e = .returned (.bool true) ∧ Below w.heap.size w w' := by
  have HN := Lib.hid (lw_new (Below.refl _ w) hm)
  clear hm
  go_enter Tryz.func5, Tryz.ntmps5
  go_wp2_with fail
  refine HN.out.mono ?_
  rintro e w1 ⟨d, bk, he, hL⟩
  have he := he.out
  subst he
  have HL1 := Lib.hid hL
  clear hL HN
  go_wp2_with fail
  refine (lw_apply HL1.out 0 0 1 pA vX 0 0 0 (by omega) (by decide)).mono ?_
  rw [w1_is]
  rintro e w2 ⟨v2, he, ho, hL2, hg2⟩
  have he := he.out
  subst he
  obtain ⟨a2, c2, rfl⟩ := ho.slice
  have hn2 := ho.nms (by simp)
  simp only [List.map_nil, List.map_cons, List.length_nil, List.length_cons, Nat.zero_add] at hn2 ⊢
  obtain ⟨Z2, hZ2⟩ : ∃ Z, w2.alloc (.cells #[.int .i64 0, .string v0, .int .i64 1, .slice a2 0 c2] 36) = Z := ⟨_, rfl⟩
  obtain ⟨g2, hgg2⟩ : ∃ g, w2.heap.size = g := ⟨_, rfl⟩
  have HB2 : Hid (RB g2 ⟨0, v0, 1, []⟩ Z2) := Lib.hid (by rw [← hZ2, ← hgg2]; exact RB.mk' _ hn2)
  have HL2 := Lib.hid (hL2.box #[.int .i64 0, .string v0, .int .i64 1, .slice a2 0 c2] 36)
  rw [hZ2] at HL2
  clear HL1 ho hL2 hg2 hn2
  go_wp2_with fail
  try rw [hZ2]
  try rw [hgg2]
  clear hZ2 hgg2
  refine (lw_apply HL2.out 0 0 3 pA vY 0 0 0 (by omega) (by decide)).mono ?_
  rw [w2_is]
  rintro e w3 ⟨v3, he, ho, hL3, hg3⟩
  have he := he.out
  subst he
  obtain ⟨a3, c3, rfl⟩ := ho.slice
  have hn3 := ho.nms (by simp)
  simp only [List.map_nil, List.map_cons, List.length_nil, List.length_cons, Nat.zero_add] at hn3 ⊢
  obtain ⟨Z3, hZ3⟩ : ∃ Z, w3.alloc (.cells #[.int .i64 0, .string v0, .int .i64 2, .slice a3 0 c3] 36) = Z := ⟨_, rfl⟩
  obtain ⟨g3, hgg3⟩ : ∃ g, w3.heap.size = g := ⟨_, rfl⟩
  have HB3 : Hid (RB g3 ⟨0, v0, 2, []⟩ Z3) := Lib.hid (by rw [← hZ3, ← hgg3]; exact RB.mk' _ hn3)
  have HL3 := Lib.hid (hL3.box #[.int .i64 0, .string v0, .int .i64 2, .slice a3 0 c3] 36)
  rw [hZ3] at HL3
  have HB2b := Lib.hid ((HB2.out.step HL2.out hg3).box #[.int .i64 0, .string v0, .int .i64 2, .slice a3 0 c3] 36)
  rw [hZ3] at HB2b
  clear HL2 HB2 ho hL3 hg3 hn3
  go_wp2_with fail
  try rw [hZ3]
  try rw [hgg3]
  clear hZ3 hgg3
  refine (lw_apply HL3.out 0 0 5 pR v0 0 0 0 (by omega) (by decide)).mono ?_
  rw [w3_is]
  rintro e w4 ⟨v4, he, ho, hL4, hg4⟩
  have he := he.out
  subst he
  obtain ⟨a4, c4, rfl⟩ := ho.slice
  have hn4 := ho.nms (by simp)
  simp only [List.map_nil, List.map_cons, List.length_nil, List.length_cons, Nat.zero_add] at hn4 ⊢
  obtain ⟨Z4, hZ4⟩ : ∃ Z, w4.alloc (.cells #[.int .i64 0, .string v0, .int .i64 0, .slice a4 1 c4] 36) = Z := ⟨_, rfl⟩
  obtain ⟨g4, hgg4⟩ : ∃ g, w4.heap.size = g := ⟨_, rfl⟩
  have HB4 : Hid (RB g4 ⟨0, v0, 0, [{ data := #[97] }]⟩ Z4) := Lib.hid (by rw [← hZ4, ← hgg4]; exact RB.mk' _ hn4)
  have HL4 := Lib.hid (hL4.box #[.int .i64 0, .string v0, .int .i64 0, .slice a4 1 c4] 36)
  rw [hZ4] at HL4
  have HB2c := Lib.hid ((HB2b.out.step HL3.out hg4).box #[.int .i64 0, .string v0, .int .i64 0, .slice a4 1 c4] 36)
  rw [hZ4] at HB2c
  have HB3b := Lib.hid ((HB3.out.step HL3.out hg4).box #[.int .i64 0, .string v0, .int .i64 0, .slice a4 1 c4] 36)
  rw [hZ4] at HB3b
  clear HL3 HB2b HB3 ho hL4 hg4 hn4
  go_wp2_with fail
  try rw [hZ4]
  try rw [hgg4]
  clear hZ4 hgg4
  refine (entries_any _ _ _ _ _ HL4.out.dir (by omega) HL4.out.ml).mono ?_
  rintro e w5 ⟨v5, he, ho, hb⟩
  have he := he.out
  subst he
  obtain ⟨a5, c5, rfl⟩ := ho.slice
  simp only [List.length_nil, List.length_cons, Nat.zero_add] at ho ⊢
  have HO5 := Lib.hid ho.rd
  have HL5 := Lib.hid (HL4.out.on hb)
  have HB2d := Lib.hid (HB2c.out.on hb)
  have HB3c := Lib.hid (HB3b.out.on hb)
  have HB4b := Lib.hid (HB4.out.on hb)
  clear ho hb HL4 HB2c HB3b HB4
  go_wp2_with fail
  refine (ofd_any _ _ _ _ _ HO5.out (by simp) HL5.out.right HL5.out.ml).mono ?_
  rintro e w6 ⟨he, hd, hb⟩
  have he := he.out
  subst he
  obtain ⟨d6, hd6⟩ : ∃ d, w5.heap.size + 1 = d := ⟨_, rfl⟩
  obtain ⟨b6, hb6⟩ : ∃ b, w5.heap.size = b := ⟨_, rfl⟩
  rw [hd6] at hd ⊢
  rw [hb6] at hd
  have HD6 := Lib.hid hd
  have HO6 := Lib.hid (HO5.out.below hb)
  have HL6 := Lib.hid (HL5.out.on hb)
  have HB2e := Lib.hid (HB2d.out.on hb)
  have HB3d := Lib.hid (HB3c.out.on hb)
  have HB4c := Lib.hid (HB4b.out.on hb)
  clear hd hb hd6 hb6 HL5 HB2d HB3c HB4b HO5
  have r20 := HB2e.out.c0
  have r22 := HB2e.out.c2
  have r30 := HB3d.out.c0
  have r32 := HB3d.out.c2
  obtain ⟨v43, r43, a43, c43, rfl, hs4⟩ := HB4c.out.c3
  obtain ⟨g43, o43, rfl, hg43, r44⟩ := hs4.cell 0 (by simp)
  obtain ⟨en, g5, o5, rfl, hg5, t0, t1, t2, el⟩ := entCell HO6.out 0 (by simp)
  simp only [List.length_cons, List.length_nil, Nat.zero_add, Nat.add_zero, Nat.zero_mul, List.getD_cons_zero] at r43 r44 t0 t1 t2
  obtain ⟨nA, qA, s44⟩ : ∃ n : ByteArray, (n.toList == [97]) = true ∧ w6.cell? ⟨g43, o43, none⟩ = some (.string n) := ⟨_, by rw [Lib.toList_data]; rfl, r44⟩
  obtain ⟨nY, qY, s1⟩ : ∃ n : ByteArray, (n.toList == [121]) = true ∧ w6.cell? ⟨g5, o5 + 1, none⟩ = some (.string n) := ⟨_, by rw [Lib.toList_data]; rfl, t1⟩
  clear hs4 hg43 hg5 t0 t1 t2 r44 en el
  have HLEN := Lib.hid (len_any d6 b6 _ _ w6 HD6.out)
  go_wp2_with (go_at_call 13; refine HLEN.out.mono ?_; rintro e w7 ⟨rfl, hb⟩; have HL7 := Lib.hid (HL6.out.on hb); clear hb)
  refine (clone_any _ _ _ _ _ HL7.out.dir).mono ?_
  rintro e w8 ⟨d8, b8, he, hd, _, _, hb⟩
  have he := he.out
  subst he
  have HL8 := Lib.hid (HL7.out.on hb)
  clear hd hb
  go_wp2
  go_ret
  exact ⟨rfl, HL8.out.below⟩
end Go.Proofs.YtodcmhmankmaoaaGreat
