/-
  A session with a list of its own.
-/
import Derived.Test.YtbebjpfbbidaiaaGreatSes2
namespace Go.Proofs.YtbebjpfbbidaiaaGreat
open Go.RowKit
set_option linter.unusedSimpArgs false
set_option linter.unusedVariables false

theorem own_sl {w : World} {base : Nat} {v : Value} {ns : List ByteArray} (h : SK.Own w base v ns) : ∃ sl n, v = slV sl n ∧ (sl = none → n = 0) := by
  rcases h.2 with ⟨rfl, _⟩ | ⟨g, cap, cur, rfl, _⟩
  · exact ⟨none, 0, rfl, fun _ => rfl⟩
  · exact ⟨some (g, cap), ns.length, rfl, fun h => by cases h⟩
def SesO (c q : Int) (r : Rep) (w : World) (e : Ending) (w' : World) : Prop := ∃ sl n, Hid (e = .returned (svV ⟨c, q, r.err, r.val, r.ver, sl, n⟩)) ∧ (sl = none → n = 0) ∧ SK.Own w' w.heap.size (slV sl n) r.names ∧ Below w.heap.size w w'
set_option maxRecDepth 100000 in
set_option maxHeartbeats 2000000 in
theorem csession_any (c q : Int) (r : Rep) (v : Value) (w : World) (h : SK.Rd w v r.names) (hl : r.names.length ≤ 100000) : Calls Tryz.prog 38 #[.agg #[.int .i64 c, .int .i64 q, .int .i64 r.err, .string r.val, .int .i64 r.ver, v]] w (SesO c q r w) := by
  obtain ⟨er, vl, vr, ns⟩ := r
  simp only at h hl ⊢
  obtain ⟨a, cc, rfl⟩ := h.slice
  obtain ⟨N, hN⟩ : ∃ N, ns.length = N := ⟨_, rfl⟩
  rw [hN] at h ⊢
  have HN := Lib.hid hN
  obtain ⟨X, hX⟩ : ∃ X, (w.alloc (.cells #[Value.int .i64 c, .int .i64 q, .int .i64 er, .string vl, .int .i64 vr, .slice a N cc] 35)).alloc (.cells #[Value.int .i64 0, .int .i64 0, .int .i64 0, .string { data := #[] }, .int .i64 0, .slice none 0 0] 35) = X := ⟨_, rfl⟩
  have hB : Below w.heap.size w X := by rw [← hX]; exact ((Below.refl _ _).alloc (Nat.le_refl _) _).alloc (by simp) _
  have hcs : (∀ j, X.cell? ⟨w.heap.size, j, none⟩ = #[Value.int .i64 c, .int .i64 q, .int .i64 er, .string vl, .int .i64 vr, .slice a N cc][j]?) ∧ (∀ j, X.cell? ⟨w.heap.size + 1, j, none⟩ = #[Value.int .i64 0, .int .i64 0, .int .i64 0, .string { data := #[] }, .int .i64 0, .slice none 0 0][j]?) := by rw [← hX]; exact two_cells _ _ _ _ _
  have hfz : (∀ o, X.frozen? ⟨w.heap.size, o, none⟩ = false) ∧ (∀ o, X.frozen? ⟨w.heap.size + 1, o, none⟩ = false) := by rw [← hX]; constructor <;> intro o <;> simp [go_sem]
  have hz : w.heap.size + 2 ≤ X.heap.size := by rw [← hX]; simp
  have HCS := Lib.hid hcs
  have HFZ := Lib.hid hfz
  have HZ := Lib.hid hz
  have HB := Lib.hid hB
  have HS := Lib.hid (creply_any ⟨er, vl, vr, ns⟩ (.slice a N cc) X (h.below hB) hl)
  have k2 := hcs.1 2
  have k3 := hcs.1 3
  have k4 := hcs.1 4
  have k5 := hcs.1 5
  simp only [List.getElem?_toArray, List.getElem?_cons_zero, List.getElem?_cons_succ] at k2 k3 k4 k5
  clear hcs hfz h hB hz hN
  go_enter Tryz.func38, Tryz.ntmps38
  go_wp2_with fail
  refine HS.out.mono ?_
  rintro e w1 ⟨v1, he, ho, hb⟩
  have he := he.out
  subst he
  simp only at ho
  obtain ⟨sl, n, rfl, hsl⟩ := own_sl ho
  obtain ⟨a1, c1, hv1⟩ := ho.slice
  rw [HN.out] at hv1
  have HV1 := Lib.hid hv1
  rw [hv1]
  have l0 : (⟨w.heap.size, 0, none⟩ : Addr).block < X.heap.size := by have := HZ.out; show w.heap.size < _; omega
  have l1 : (⟨w.heap.size + 1, 0, none⟩ : Addr).block < X.heap.size := by have := HZ.out; show w.heap.size + 1 < _; omega
  have p0 := (hb.cell (p := ⟨w.heap.size, 0, none⟩) l0).trans (HCS.out.1 0)
  have p1 := (hb.cell (p := ⟨w.heap.size, 1, none⟩) l0).trans (HCS.out.1 1)
  have p2 := (hb.cell (p := ⟨w.heap.size, 2, none⟩) l0).trans (HCS.out.1 2)
  have p3 := (hb.cell (p := ⟨w.heap.size, 3, none⟩) l0).trans (HCS.out.1 3)
  have p4 := (hb.cell (p := ⟨w.heap.size, 4, none⟩) l0).trans (HCS.out.1 4)
  have p5 := (hb.cell (p := ⟨w.heap.size, 5, none⟩) l0).trans (HCS.out.1 5)
  have q0 := (hb.cell (p := ⟨w.heap.size + 1, 0, none⟩) l1).trans (HCS.out.2 0)
  have q1 := (hb.cell (p := ⟨w.heap.size + 1, 1, none⟩) l1).trans (HCS.out.2 1)
  have q2 := (hb.cell (p := ⟨w.heap.size + 1, 2, none⟩) l1).trans (HCS.out.2 2)
  have q3 := (hb.cell (p := ⟨w.heap.size + 1, 3, none⟩) l1).trans (HCS.out.2 3)
  have q4 := (hb.cell (p := ⟨w.heap.size + 1, 4, none⟩) l1).trans (HCS.out.2 4)
  have q5 := (hb.cell (p := ⟨w.heap.size + 1, 5, none⟩) l1).trans (HCS.out.2 5)
  simp only [List.getElem?_toArray, List.getElem?_cons_zero, List.getElem?_cons_succ] at p0 p1 p2 p3 p4 p5 q0 q1 q2 q3 q4 q5
  have f0 : ∀ o, w1.frozen? ⟨w.heap.size, o, none⟩ = false := fun o => (hb.frozen (p := ⟨w.heap.size, o, none⟩) l0).trans (HFZ.out.1 o)
  have f1 : ∀ o, w1.frozen? ⟨w.heap.size + 1, o, none⟩ = false := fun o => (hb.frozen (p := ⟨w.heap.size + 1, o, none⟩) l1).trans (HFZ.out.2 o)
  have z1 : w.heap.size + 2 ≤ w1.heap.size := by have := hb.size; have := HZ.out; omega
  have HO := Lib.hid (ho.base (b2 := w.heap.size + 2) HZ.out)
  have HB1 := Lib.hid (below_self HB.out hb)
  have HSL := Lib.hid hsl
  clear ho hb l0 l1 k2 k3 k4 k5 hX hv1 hsl
  go_wp2
  refine bodyPost_ret (v := .agg #[.int .i64 c, .int .i64 q, .int .i64 er, .string vl, .int .i64 vr, .slice a1 N c1]) (by simp [results, Tryz.results38, go_sem, p0, p1, p2, p3, p4, p5, q0, q1, q2, q3, q4, q5, f0, f1, show w.heap.size < w1.heap.size by omega, show w.heap.size + 1 < w1.heap.size by omega]) rfl ⟨sl, n, by rw [← HV1.out]; rfl, HSL.out, ?_, ?_⟩
  · exact Knd.Own.base (((((((((((HO.out.set (by omega) _ _).set (by omega) _ _).set (by omega) _ _).set (by omega) _ _).set (by omega) _ _).set (by omega) _ _).set (by omega) _ _).set (by omega) _ _).set (by omega) _ _).set (by omega) _ _)) (by omega)
  · exact ((((((((((HB1.out.setCell (by simp) _).setCell (by simp) _).setCell (by simp) _).setCell (by simp) _).setCell (by simp) _).setCell (by simp) _).setCell (by simp) _).setCell (by simp) _).setCell (by simp) _).setCell (by simp) _)
end Go.Proofs.YtbebjpfbbidaiaaGreat
