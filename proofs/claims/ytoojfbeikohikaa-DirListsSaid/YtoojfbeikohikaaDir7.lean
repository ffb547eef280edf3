/-
  cas.
-/
import Derived.Test.YtoojfbeikohikaaDir6
namespace Go.Proofs.Ytoojfbeikohikaa
open Go.RowKit Go.Sort
open Go.WideMaps
set_option linter.unusedSimpArgs false
set_option linter.unusedVariables false

theorem Own1.lower {w : World} {b b2 e : Nat} {v : Value} {xs : List Value} (h : Own1 w b e v xs) (hb : b2 ≤ b) : Own1 w b2 e v xs := by
  obtain ⟨h1, h2⟩ := h
  refine ⟨h1, ?_⟩
  rcases h2 with h2 | ⟨g, cap, cur, hv, hg, hr⟩
  · exact .inl h2
  · exact .inr ⟨g, cap, cur, hv, Nat.le_trans hb hg, hr⟩
theorem AppP.store {r : Rep × List E3} {d bk K : Nat} {w wk w5 : World} (hB : w.grownBy wk (some bk)) (hz : w.heap.size + 2 ≤ wk.heap.size) (hlt : d < w.heap.size ∧ bk < w.heap.size) {v : Value} (ho : Own1 w5 wk.heap.size 9 v (r.1.names.map .string)) (hd : DirAt w5 d bk (K + 1) r.2) (hg : wk.grownBy w5 (some bk))
    (x y z u : Value) (v2 : Value) (hv : v2 = repV r.1 v) : AppP r d bk K w (.returned v2) ((((w5.setCell ⟨w.heap.size + 1, 0, none⟩ x).setCell ⟨w.heap.size + 1, 1, none⟩ y).setCell ⟨w.heap.size + 1, 2, none⟩ z).setCell ⟨w.heap.size + 1, 3, none⟩ u) := by
  subst hv
  have hb : Below w.heap.size w5 _ := below4 (Below.refl w.heap.size w5) x y z u
  refine ⟨⟨v, rfl, ?_⟩, hd.low hb hlt.1 hlt.2, outN (outT hB hg) hb⟩
  refine Own1.lower (b := wk.heap.size) ?_ (by omega)
  refine ho.keepB fun k hk => ?_
  have hkk := own1_from ho k hk
  rw [Below.heap_setCell _ _ _ k (by simp; omega), Below.heap_setCell _ _ _ k (by simp; omega), Below.heap_setCell _ _ _ k (by simp; omega), Below.heap_setCell _ _ _ k (by simp; omega)]
def casD (l : List E3) (p v : ByteArray) (ver : Int) : Rep × List E3 := if thrD l p && decide (((fndD l p).getD zH).2 ≠ ver) then (⟨5, { data := #[] }, ((fndD l p).getD zH).2, []⟩, l) else setD l p v
set_option maxRecDepth 100000 in
set_option maxHeartbeats 1000000 in
theorem cas_any (d bk K : Nat) (l : List E3) (cl sq op : Int) (p v : ByteArray) (ver a b : Int) (w : World) (hd : DirAt w d bk K l) (hK : K ≤ 1000000) (hp : p.size ≤ 1000) (hv : vld p = true) (hr : p ≠ pth []) (hver : ∀ e ∈ l, 0 ≤ e.2.2 ∧ e.2.2 ≤ 4000000000000) :
    Calls Try.prog 41 #[dP d, cmdV cl sq op p v ver a b] w (AppP (casD l p v ver) d bk K w) := by
  obtain ⟨X, hX⟩ : ∃ X, box2 w cl sq op p v ver a b = X := ⟨_, rfl⟩
  have hB : Below w.heap.size w X := by rw [← hX]; exact box2_below ..
  have hBX : BX w.heap.size cl sq op p v ver a b X := by rw [← hX]; exact BX.mk0 ..
  have HD := Lib.hid hd
  have HV := Lib.hid hv
  have HR := Lib.hid hr
  have HVER := Lib.hid hver
  have HD1 := Lib.hid (hd.below hB)
  have HB1 := Lib.hid hB
  have HBX1 := Lib.hid hBX
  have HP := Lib.hid hp
  obtain ⟨u, hu⟩ : ∃ u, ((fndD l p).getD zH).1 = u := ⟨_, rfl⟩
  obtain ⟨n, hn⟩ : ∃ n, ((fndD l p).getD zH).2 = n := ⟨_, rfl⟩
  obtain ⟨D, m, hm, hM, hI⟩ := HD1.out.map
  have h1 := look_run hM.drew hI HP.out
  have h2 := look_run (hM.drew.alloc (.cells #[.string { data := #[] }, .int .i64 0] 63)) hI HP.out
  have h3 := look_run (hM.alloc (.cells #[.string { data := #[] }, .int .i64 0] 63)).drew hI HP.out
  rw [hu, hn] at h1 h2 h3
  have HU := Lib.hid hu
  have HN := Lib.hid hn
  have dc := HD1.out.cell
  have c3 := HBX1.out.c.2.2.2.1
  have z1 := HBX1.out.z
  have dl := HD1.out.lt.1
  have q1 : w.heap.size < X.heap.size := by omega
  have q2 : w.heap.size + 1 < X.heap.size := by omega
  have q3 : d < X.heap.size + 1 := by omega
  have dc2 : (X.alloc (.cells #[.string { data := #[] }, .int .i64 0] 63)).cell? ⟨d, 0, none⟩ = some (.map (some bk)) := by rw [World.cell?_of_block (Below.heap_alloc _ _ d dl)]; exact dc
  have c32 : (X.alloc (.cells #[.string { data := #[] }, .int .i64 0] 63)).cell? ⟨w.heap.size, 3, none⟩ = some (.string p) := by rw [World.cell?_of_block (Below.heap_alloc _ _ w.heap.size q1)]; exact c3
  clear hd hB hBX hp hm hM hI hu hn hv hr hver
  go_enter Try.func41, Try.ntmps41
  go_wp2_with fail
  go_region
  all_goals
    have hbd : Below X.heap.size X (X.alloc (.cells #[.string u, .int .i64 n] 63)).drew := ((Below.refl _ _).alloc (Nat.le_refl _) _).drew
    have HB2 := Lib.hid (below_self HB1.out hbd)
    have HBX2 := Lib.hid (HBX1.out.below hbd)
    have HD2 := Lib.hid (HD1.out.below hbd)
    have k1 : (X.alloc (.cells #[.string u, .int .i64 n] 63)).drew.cell? ⟨X.heap.size, 1, none⟩ = some (.int .i64 n) := by simp [go_sem]
    have z2 : X.heap.size < (X.alloc (.cells #[.string u, .int .i64 n] 63)).drew.heap.size := by simp
    have K1 := Lib.hid k1
    have Z2 := Lib.hid z2
    clear hbd h1 h2 h3 dc c3 z1 q1 q2 q3 dc2 c32 dl hX k1 z2
    generalize (X.alloc (.cells #[.string u, .int .i64 n] 63)).drew = w2 at *
    have c3 := HBX2.out.c.2.2.2.1
    go_wp2_with fail
    refine (there_any d bk K l p w2 HD2.out HP.out).mono ?_
    rintro e w3 ⟨rfl, hb⟩
    have HB3 := Lib.hid (below_self HB2.out hb)
    have HBX3 := Lib.hid (HBX2.out.below hb)
    have HD3 := Lib.hid (HD2.out.below hb)
    have k1 := (hb.cell (p := ⟨X.heap.size, 1, none⟩) Z2.out).trans K1.out
    obtain ⟨c0, c1, c2, c3, c4, c5, c6, c7⟩ := HBX3.out.c
    clear hb
    obtain ⟨T, hT⟩ : ∃ T, thrD l p = T := ⟨_, rfl⟩
    rw [hT]
    have HT := Lib.hid hT
    clear hT
    cases T with
    | false =>
      have HC := Lib.hid (set_any d bk K l cl sq op p v ver a b w3 HD3.out hK HP.out HV.out HR.out HVER.out)
      obtain ⟨R, hR⟩ : ∃ R, setD l p v = R := ⟨_, rfl⟩
      have HRR := Lib.hid hR
      clear hR
      go_wp2_with fail
      refine HC.out.mono ?_
      rintro e w5 ⟨⟨v5, he, ho⟩, hd5, hg5⟩
      rw [HRR.out] at he ho hd5
      obtain ⟨a5, cc5, hv5⟩ := ho.slice
      obtain ⟨M, hM⟩ : ∃ M, (List.map Value.string R.1.names).length = M := ⟨_, rfl⟩
      rw [hM] at hv5
      subst hv5
      have he2 := he.out
      subst he2
      have HO5 := Lib.hid ho
      have HD5 := Lib.hid hd5
      have HG5 := Lib.hid hg5
      have HBX5 := HBX3.out.out hg5 HD.out.lt.2
      obtain ⟨r0, r1, r2, r3⟩ := HBX5.r
      obtain ⟨f0, f1⟩ := HBX5.f
      have z5 := HBX5.z
      clear ho hd5 hg5 HBX5 he k1 c0 c1 c2 c3 c4 c5 c6 c7 hM
      go_wp2
      refine bodyPost_ret (v := repV R.1 (.slice a5 M cc5)) (by simp [results, Try.results41, go_sem, r0, r1, r2, r3, f1, show w.heap.size + 1 < w5.heap.size by omega]) rfl ?_
      have e1 : casD l p v ver = R := by rw [← HRR.out, casD, if_neg (by rw [HT.out]; simp)]
      rw [e1]
      exact AppP.store (outB HB3.out) HBX3.out.z HD.out.lt HO5.out HD5.out HG5.out _ _ _ _ _ rfl
    | true =>
    by_cases hnv : n = ver
    · have g1 : (n == ver) = true := by simpa using hnv
      have g2 : (n != ver) = false := by simpa using hnv
      have HNV := Lib.hid hnv
      clear hnv
      have HC := Lib.hid (set_any d bk K l cl sq op p v ver a b w3 HD3.out hK HP.out HV.out HR.out HVER.out)
      obtain ⟨R, hR⟩ : ∃ R, setD l p v = R := ⟨_, rfl⟩
      have HRR := Lib.hid hR
      clear hR
      go_wp2_with fail
      refine HC.out.mono ?_
      rintro e w5 ⟨⟨v5, he, ho⟩, hd5, hg5⟩
      rw [HRR.out] at he ho hd5
      obtain ⟨a5, cc5, hv5⟩ := ho.slice
      obtain ⟨M, hM⟩ : ∃ M, (List.map Value.string R.1.names).length = M := ⟨_, rfl⟩
      rw [hM] at hv5
      subst hv5
      have he2 := he.out
      subst he2
      have HO5 := Lib.hid ho
      have HD5 := Lib.hid hd5
      have HG5 := Lib.hid hg5
      have HBX5 := HBX3.out.out hg5 HD.out.lt.2
      obtain ⟨r0, r1, r2, r3⟩ := HBX5.r
      obtain ⟨f0, f1⟩ := HBX5.f
      have z5 := HBX5.z
      clear ho hd5 hg5 HBX5 he k1 c0 c1 c2 c3 c4 c5 c6 c7 hM
      go_wp2
      refine bodyPost_ret (v := repV R.1 (.slice a5 M cc5)) (by simp [results, Try.results41, go_sem, r0, r1, r2, r3, f1, show w.heap.size + 1 < w5.heap.size by omega]) rfl ?_
      have e1 : casD l p v ver = R := by rw [← HRR.out, casD, if_neg (by rw [HN.out, HNV.out]; simp)]
      rw [e1]
      exact AppP.store (outB HB3.out) HBX3.out.z HD.out.lt HO5.out HD5.out HG5.out _ _ _ _ _ rfl
    · have g1 : (n == ver) = false := by simpa using hnv
      have g2 : (n != ver) = true := by simpa using hnv
      have HNV := Lib.hid hnv
      obtain ⟨r0, r1, r2, r3⟩ := HBX3.out.r
      obtain ⟨f0, f1⟩ := HBX3.out.f
      have z5 := HBX3.out.z
      clear hnv
      go_wp2
      refine bodyPost_ret (v := repV ⟨5, { data := #[] }, n, []⟩ (.slice none 0 0)) (by simp [results, Try.results41, go_sem, r0, r1, r2, r3, f1, show w.heap.size + 1 < w3.heap.size by omega]) rfl ?_
      rw [casD, if_pos (by rw [HT.out, HN.out]; simpa using HNV.out), HN.out]
      exact AppP.ok ((HD.out.below HB3.out).mono (Nat.le_succ _)) (outB HB3.out) HD.out.lt (below4 (Below.refl _ w3) _ _ _ _) rfl _ rfl
end Go.Proofs.Ytoojfbeikohikaa
