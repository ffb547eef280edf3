/-
  get, cas.
-/
import Derived.Test.YtoojfbeikohikaaDir5
namespace Go.Proofs.Ytoojfbeikohikaa
open Go.RowKit Go.Sort
open Go.WideMaps
set_option linter.unusedSimpArgs false
set_option linter.unusedVariables false

def gtD (l : List E3) (p : ByteArray) : Rep × List E3 := if thrD l p then (⟨0, ((fndD l p).getD zH).1, ((fndD l p).getD zH).2, []⟩, l) else (bad 2, l)
set_option maxRecDepth 100000 in
set_option maxHeartbeats 1000000 in
theorem get_any (d bk K : Nat) (l : List E3) (cl sq op : Int) (p v : ByteArray) (ver a b : Int) (w : World) (hd : DirAt w d bk K l) (hp : p.size ≤ 1000) :
    Calls Try.prog 39 #[dP d, cmdV cl sq op p v ver a b] w (AppP (gtD l p) d bk K w) := by
  obtain ⟨X, hX⟩ : ∃ X, box2 w cl sq op p v ver a b = X := ⟨_, rfl⟩
  have hB : Below w.heap.size w X := by rw [← hX]; exact box2_below ..
  have hBX : BX w.heap.size cl sq op p v ver a b X := by rw [← hX]; exact BX.mk0 ..
  have HD := Lib.hid hd
  have HDX := Lib.hid (hd.below hB)
  have HB := Lib.hid hB
  have HBX := Lib.hid hBX
  have HP := Lib.hid hp
  have c3 := hBX.c.2.2.2.1
  clear hd hB hBX hp
  go_enter Try.func39, Try.ntmps39
  go_wp2_with fail
  refine (there_any d bk K l p X HDX.out HP.out).mono ?_
  rintro e w1 ⟨rfl, hb⟩
  have HB1 := Lib.hid (below_self HB.out hb)
  have HD1 := Lib.hid (HDX.out.below hb)
  have HBX1 := Lib.hid (HBX.out.below hb)
  clear hb HDX HBX c3 hX
  obtain ⟨T, hT⟩ : ∃ T, thrD l p = T := ⟨_, rfl⟩
  rw [hT]
  have HT := Lib.hid hT
  clear hT
  cases T with
  | false =>
    go_wp2_with fail
    refine (failed_any 2 w1).mono ?_
    rintro e w2 ⟨rfl, hb⟩
    have HB2 := Lib.hid (below_self HB1.out hb)
    have HBX2 := HBX1.out.below hb
    obtain ⟨r0, r1, r2, r3⟩ := HBX2.r
    obtain ⟨f0, f1⟩ := HBX2.f
    have z2 := HBX2.z
    clear hb HBX2
    go_wp2
    refine bodyPost_ret (v := repV (bad 2) (.slice none 0 0)) (by simp [results, Try.results39, go_sem, bad, r0, r1, r2, r3, f1, show w.heap.size + 1 < w2.heap.size by omega]) rfl ?_
    rw [gtD, if_neg (by rw [HT.out]; simp)]
    exact AppP.bad HD.out (below4 HB2.out _ _ _ _) _ rfl
  | true =>
    obtain ⟨u, hu⟩ : ∃ u, ((fndD l p).getD zH).1 = u := ⟨_, rfl⟩
    obtain ⟨n, hn⟩ : ∃ n, ((fndD l p).getD zH).2 = n := ⟨_, rfl⟩
    obtain ⟨D, m, hm, hM, hI⟩ := HD1.out.map
    have h1 := look_run hM.drew hI HP.out
    have h2 := look_run (hM.drew.alloc (.cells #[.string { data := #[] }, .int .i64 0] 63)) hI HP.out
    have h3 := look_run (hM.alloc (.cells #[.string { data := #[] }, .int .i64 0] 63)).drew hI HP.out
    rw [hu, hn] at h1 h2 h3
    have HU := Lib.hid hu
    have HN := Lib.hid hn
    have dc := HD1.out.cell
    have c3 := HBX1.out.c.2.2.2.1
    have z1 := HBX1.out.z
    have dl := HD1.out.lt.1
    have q1 : w.heap.size < w1.heap.size := by omega
    have q2 : w.heap.size + 1 < w1.heap.size := by omega
    have q3 : d < w1.heap.size + 1 := by omega
    have dc2 : (w1.alloc (.cells #[.string { data := #[] }, .int .i64 0] 63)).cell? ⟨d, 0, none⟩ = some (.map (some bk)) := by rw [World.cell?_of_block (Below.heap_alloc _ _ d dl)]; exact dc
    have c32 : (w1.alloc (.cells #[.string { data := #[] }, .int .i64 0] 63)).cell? ⟨w.heap.size, 3, none⟩ = some (.string p) := by rw [World.cell?_of_block (Below.heap_alloc _ _ w.heap.size q1)]; exact c3
    clear hm hM hI hu hn
    go_wp2_with fail
    go_region
    all_goals
      have hbd : Below w1.heap.size w1 (w1.alloc (.cells #[.string u, .int .i64 n] 63)).drew := ((Below.refl _ _).alloc (Nat.le_refl _) _).drew
      have HB2 := Lib.hid (below_self HB1.out hbd)
      have HBX2 := HBX1.out.below hbd
      have k0 : (w1.alloc (.cells #[.string u, .int .i64 n] 63)).drew.cell? ⟨w1.heap.size, 0, none⟩ = some (.string u) := by simp [go_sem]
      have k1 : (w1.alloc (.cells #[.string u, .int .i64 n] 63)).drew.cell? ⟨w1.heap.size, 1, none⟩ = some (.int .i64 n) := by simp [go_sem]
      clear hbd h1 h2 h3 dc c3 z1 q1 q2 q3 dc2 c32 dl
      generalize (w1.alloc (.cells #[.string u, .int .i64 n] 63)).drew = w2 at *
      obtain ⟨r0, r1, r2, r3⟩ := HBX2.r
      obtain ⟨f0, f1⟩ := HBX2.f
      have z2 := HBX2.z
      clear HBX2
      go_wp2
      refine bodyPost_ret (v := repV ⟨0, u, n, []⟩ (.slice none 0 0)) (by simp [results, Try.results39, go_sem, bad, r0, r1, r2, r3, f1, show w.heap.size + 1 < w2.heap.size by omega]) rfl ?_
      rw [gtD, if_pos HT.out, HU.out, HN.out]
      exact AppP.ok ((HD.out.below HB2.out).mono (Nat.le_succ _)) (outB HB2.out) HD.out.lt (below4 (Below.refl _ w2) _ _ _ _) rfl _ rfl
end Go.Proofs.Ytoojfbeikohikaa
