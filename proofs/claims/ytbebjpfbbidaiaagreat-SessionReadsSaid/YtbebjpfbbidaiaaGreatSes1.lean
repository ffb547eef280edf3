/-
  Replies and sessions with a list of their own; which clients may be.
-/
import Derived.Test.YtbebjpfbbidaiaaGreatSk
import Derived.Test.YtbebjpfbbidaiaaGreatSesM
import Derived.Lib.LazyBuf
namespace Go.Proofs.YtbebjpfbbidaiaaGreat
open Go.RowKit
set_option linter.unusedSimpArgs false
set_option linter.unusedVariables false

theorem Knd.Own.set {P : Program} {α : Type} {K : Knd P α} {w : World} {base : Nat} {v : Value} {l : List α} (h : K.Own w base v l) {b : Nat} (hb : b < base) (o : Nat) (u : Value) : K.Own (w.setCell ⟨b, o, none⟩ u) base v l :=
  h.keepB fun k hk => Below.heap_setCell _ _ _ k (by have := h.from k hk; show k ≠ b; omega)
theorem Knd.Own.out {P : Program} {α : Type} {K : Knd P α} {w w' : World} {base bk : Nat} {v : Value} {l : List α} (h : K.Own w base v l) (hg : w.grownBy w' (some bk)) (hne : ∀ g cs T fr, w.heap[g]? = some (.cells cs T fr) → g ≠ bk) : K.Own w' base v l :=
  h.keepB fun k hk => by
    obtain ⟨hlt, cs, fr, hc⟩ := h.blk k hk
    exact hg.block k hlt (by have := hne k cs _ fr hc; simpa using this)
/-- The copy of a list of texts. -/
def SclP (ns : List ByteArray) (w : World) (e : Ending) (w' : World) : Prop := ∃ v', Hid (e = .returned v') ∧ SK.Own w' w.heap.size v' ns ∧ Below w.heap.size w w'
set_option maxHeartbeats 400000 in
theorem sclone_any (v : Value) (ns : List ByteArray) (w : World) (h : SK.Rd w v ns) (hl : ns.length ≤ 100000) : Calls Tryz.prog 65 #[v] w (SclP ns w) := by
  have H := Lib.hid h
  have knil := fun (w : World) (a : Option Addr) (l c : Nat) => run_eql_slice_nil (P := Tryz.prog) w 26 9 a l c Tryz.underlying26
  obtain ⟨a, c, rfl, h1, h2, h3⟩ := h
  cases a with
  | none =>
    have hxs : ns = [] := by
      rcases h3 with h0 | ⟨g, off, ha, _⟩
      · exact h0
      · cases ha
    subst hxs
    obtain rfl := h2 rfl
    clear H h1 h2 h3
    go_enter Tryz.func65, Tryz.ntmps65
    go_wp2
    go_ret
    exact ⟨_, rfl, Knd.Own.nil _ _, Below.refl _ _⟩
  | some ad =>
    clear h1 h2 h3
    obtain ⟨N, hN⟩ : ∃ N, ns.length = N := ⟨_, rfl⟩
    rw [hN] at H hl ⊢
    have HN := Lib.hid hN
    clear hN
    go_enter Tryz.func65, Tryz.ntmps65
    have HO : Hid (SK.Own (w.alloc (.cells #[] 9)) w.heap.size (.slice (some ⟨w.heap.size, 0, none⟩) 0 0) []) := World.ownsRow_lit w #[] 0 (Nat.le_refl _) (by simp) rfl
    have HH := Lib.hid (H.out.below ((Below.refl w.heap.size w).alloc (Nat.le_refl _) (.cells #[] 9)))
    have hz : w.heap.size ≤ (w.alloc (.cells #[] 9)).heap.size := by simp
    go_wp2_with (refine SK.app rfl _ _ rfl w.heap.size _ [] rfl HO.out _ ns rfl HH.out (by simp only [List.length_nil]; rw [HN.out]; omega) hz ?_)
    intro v' w' ho hb _ _
    have HI := Lib.hid ho
    have HB := Lib.hid (((Below.refl w.heap.size w).alloc (Nat.le_refl _) (.cells #[] 9)).trans hb)
    clear ho hb
    go_wp2
    go_ret
    exact ⟨_, rfl, by simpa using HI.out, HB.out⟩
/-- A reply with a list of its own. -/
def RepO (r : Rep) (w : World) (e : Ending) (w' : World) : Prop := ∃ v, Hid (e = .returned (repV r v)) ∧ SK.Own w' w.heap.size v r.names ∧ Below w.heap.size w w'
set_option maxRecDepth 100000 in
set_option maxHeartbeats 1000000 in
theorem creply_any (r : Rep) (v : Value) (w : World) (h : SK.Rd w v r.names) (hl : r.names.length ≤ 100000) : Calls Tryz.prog 43 #[repV r v] w (RepO r w) := by
  obtain ⟨er, vl, vr, ns⟩ := r
  simp only at h hl
  obtain ⟨a, c, rfl⟩ := h.slice
  obtain ⟨N, hN⟩ : ∃ N, ns.length = N := ⟨_, rfl⟩
  rw [hN] at h ⊢
  have HN := Lib.hid hN
  obtain ⟨X, hX⟩ : ∃ X, (w.alloc (.cells #[.int .i64 er, .string vl, .int .i64 vr, .slice a N c] 28)).alloc (.cells #[.int .i64 0, .string { data := #[] }, .int .i64 0, .slice none 0 0] 28) = X := ⟨_, rfl⟩
  have hB : Below w.heap.size w X := by rw [← hX]; exact ((Below.refl _ _).alloc (Nat.le_refl _) _).alloc (by simp) _
  have hcs : (∀ j, X.cell? ⟨w.heap.size, j, none⟩ = #[Value.int .i64 er, .string vl, .int .i64 vr, .slice a N c][j]?) ∧ (∀ j, X.cell? ⟨w.heap.size + 1, j, none⟩ = #[Value.int .i64 0, .string { data := #[] }, .int .i64 0, .slice none 0 0][j]?) := by rw [← hX]; exact two_cells _ _ _ _ _
  have hfz : (∀ o, X.frozen? ⟨w.heap.size, o, none⟩ = false) ∧ (∀ o, X.frozen? ⟨w.heap.size + 1, o, none⟩ = false) := by rw [← hX]; constructor <;> intro o <;> simp [go_sem]
  have hz : w.heap.size + 2 ≤ X.heap.size := by rw [← hX]; simp
  have HCS := Lib.hid hcs
  have HFZ := Lib.hid hfz
  have HZ := Lib.hid hz
  have HB := Lib.hid hB
  have HS := Lib.hid (sclone_any (.slice a N c) ns X (h.below hB) hl)
  have k3 := hcs.1 3
  simp only [List.getElem?_toArray, List.getElem?_cons_zero, List.getElem?_cons_succ] at k3
  clear hcs hfz h hB hz hN
  go_enter Tryz.func43, Tryz.ntmps43
  go_wp2_with fail
  refine HS.out.mono ?_
  rintro e w1 ⟨v1, he, ho, hb⟩
  have he := he.out
  subst he
  obtain ⟨a1, c1, hv1⟩ := ho.slice
  rw [HN.out] at hv1
  subst hv1
  have l0 : (⟨w.heap.size, 0, none⟩ : Addr).block < X.heap.size := by have := HZ.out; show w.heap.size < _; omega
  have l1 : (⟨w.heap.size + 1, 0, none⟩ : Addr).block < X.heap.size := by have := HZ.out; show w.heap.size + 1 < _; omega
  have p0 := (hb.cell (p := ⟨w.heap.size, 0, none⟩) l0).trans (HCS.out.1 0)
  have p1 := (hb.cell (p := ⟨w.heap.size, 1, none⟩) l0).trans (HCS.out.1 1)
  have p2 := (hb.cell (p := ⟨w.heap.size, 2, none⟩) l0).trans (HCS.out.1 2)
  have p3 := (hb.cell (p := ⟨w.heap.size, 3, none⟩) l0).trans (HCS.out.1 3)
  have q0 := (hb.cell (p := ⟨w.heap.size + 1, 0, none⟩) l1).trans (HCS.out.2 0)
  have q1 := (hb.cell (p := ⟨w.heap.size + 1, 1, none⟩) l1).trans (HCS.out.2 1)
  have q2 := (hb.cell (p := ⟨w.heap.size + 1, 2, none⟩) l1).trans (HCS.out.2 2)
  have q3 := (hb.cell (p := ⟨w.heap.size + 1, 3, none⟩) l1).trans (HCS.out.2 3)
  simp only [List.getElem?_toArray, List.getElem?_cons_zero, List.getElem?_cons_succ] at p0 p1 p2 p3 q0 q1 q2 q3
  have f0 : ∀ o, w1.frozen? ⟨w.heap.size, o, none⟩ = false := fun o => (hb.frozen (p := ⟨w.heap.size, o, none⟩) l0).trans (HFZ.out.1 o)
  have f1 : ∀ o, w1.frozen? ⟨w.heap.size + 1, o, none⟩ = false := fun o => (hb.frozen (p := ⟨w.heap.size + 1, o, none⟩) l1).trans (HFZ.out.2 o)
  have z1 : w.heap.size + 2 ≤ w1.heap.size := by have := hb.size; have := HZ.out; omega
  have HO := Lib.hid (ho.base (b2 := w.heap.size + 2) HZ.out)
  have HB1 := Lib.hid (below_self HB.out hb)
  clear ho hb l0 l1 k3 hX
  go_wp2
  refine bodyPost_ret (v := repV ⟨er, vl, vr, ns⟩ (.slice a1 N c1)) (by simp [results, Tryz.results43, go_sem, p0, p1, p2, p3, q0, q1, q2, q3, f0, f1, show w.heap.size < w1.heap.size by omega, show w.heap.size + 1 < w1.heap.size by omega]) rfl ⟨_, rfl, ?_, ?_⟩
  · exact Knd.Own.base (((((HO.out.set (by omega) _ _).set (by omega) _ _).set (by omega) _ _).set (by omega) _ _).set (by omega) _ _) (by omega)
  · exact ((((HB1.out.setCell (by simp) _).setCell (by simp) _).setCell (by simp) _).setCell (by simp) _).setCell (by simp) _
theorem right9_any (c q : Int) (w : World) : Calls Tryz.prog 37 #[.int .i64 c, .int .i64 q] w fun e w' => e = .returned (.bool (valS c q)) ∧ w = w' := by
  obtain ⟨R, hR⟩ : ∃ R, valS c q = R := ⟨_, rfl⟩
  rw [hR]
  have HR := Lib.hid hR
  clear hR
  by_cases h1 : 0 ≤ c
  · by_cases h2 : c ≤ 1099511627776
    · by_cases h3 : 1 ≤ q
      · by_cases h4 : q ≤ 1099511627776
        · have e : R = true := by rw [← HR.out]; simp [valS, h1, h2, h3, h4]
          subst e
          go_enter Tryz.func37, Tryz.ntmps37
          go_wp2
          go_ret
          exact ⟨rfl, rfl⟩
        · have e : R = false := by rw [← HR.out]; simp [valS, h4]
          subst e
          go_enter Tryz.func37, Tryz.ntmps37
          go_wp2
          go_ret
          exact ⟨rfl, rfl⟩
      · have e : R = false := by rw [← HR.out]; simp [valS, h3]
        subst e
        go_enter Tryz.func37, Tryz.ntmps37
        go_wp2
        go_ret
        exact ⟨rfl, rfl⟩
    · have e : R = false := by rw [← HR.out]; simp [valS, h2]
      subst e
      go_enter Tryz.func37, Tryz.ntmps37
      go_wp2
      go_ret
      exact ⟨rfl, rfl⟩
  · have e : R = false := by rw [← HR.out]; simp [valS, h1]
    subst e
    go_enter Tryz.func37, Tryz.ntmps37
    go_wp2
    go_ret
    exact ⟨rfl, rfl⟩
theorem valid9_any (cl sq op : Int) (p v : ByteArray) (ver a b : Int) (w : World) : Calls Tryz.prog 20 #[cmdV cl sq op p v ver a b] w fun e w' => e = .returned (.bool (valS cl sq)) ∧ Below w.heap.size w w' := by
  have HR := Lib.hid (right9_any cl sq (w.alloc (.cells #[.int .i64 cl, .int .i64 sq, .int .i64 op, .string p, .string v, .int .i64 ver, .int .i64 a, .int .i64 b] 49)))
  go_enter Tryz.func20, Tryz.ntmps20
  go_wp2_with fail
  refine HR.out.mono ?_
  rintro e w1 ⟨rfl, rfl⟩
  go_wp2
  go_ret
  exact ⟨rfl, (Below.refl _ _).alloc (Nat.le_refl _) _⟩
end Go.Proofs.YtbebjpfbbidaiaaGreat
