/-
  Graph: what the laws ask.
-/
import Derived.Test.YtlckjpjcfalfnaaWk
import Derived.Test.YtlckjpjcfalfnaaAg
import Derived.Test.YtlckjpjcfalfnaaTi
namespace Go.Proofs.Ytlckjpjcfalfnaa
open Go.RowKit Go.Sort
open Go.WideMaps
set_option linter.unusedSimpArgs false
set_option linter.unusedVariables false
set_option maxRecDepth 100000

theorem rdy_reach {web cur : List (I3 × NV)} (h : RdyIs web cur []) {x y : I3} (hx : x ∈ keysV cur) (hr : Rch (stepsV web) x y) : y ∈ keysV cur := by
  have hs : ∀ z ∈ keysV cur, ∀ d ∈ stepsV web z, d ∈ keysV cur := fun z hz d hd => (h.closed z hz d hd).elim (fun q => by cases q) id
  induction hr with
  | one hy => exact hs x hx _ hy
  | more _ hy ih => exact hs _ ih _ hy
theorem rdy_more {web c1 c2 : List (I3 × NV)} {dn : List I3} (h1 : RdyIs web c1 []) (h2 : RdyIs web c2 dn) {x : I3} (hx : x ∈ keysV c1) (hn : x ∉ dn) : x ∈ keysV c2 := by
  refine h2.great (fun y => y ∈ keysV c1 ∧ y ∉ dn) (fun y hy => ?_) x ⟨hx, hn⟩
  obtain ⟨n, q⟩ := mem_keys.1 hy.1
  refine ⟨mem_keys.2 ⟨n, (h1.sub y n q).1⟩, hy.2, fun d hd => ?_⟩
  by_cases e : d ∈ dn
  · exact .inl e
  · exact .inr ⟨(h1.closed y hy.1 d hd).elim (fun r => by cases r) id, e⟩
theorem len_rows {nv : List NV} {cur : List (I3 × NV)} {dn : List I3} (h : RdyIs (webL nv) cur dn) (hn : (keysV cur).Nodup) (hl : nv.length ≤ 14) : (clnI (keysV cur)).length ≤ 14 := by
  have h1 := len_clnI (keysV cur)
  have h2 := h.len hn
  have h3 := webL_len nv
  have h0 : (keysV cur).length = cur.length := by simp [keysV]
  omega
theorem len_reach {nv : List NV} {M : List I3} {a : I3} (h : ∀ x, x ∈ M ↔ Rch (stepsV (webL nv)) a x) (hn : M.Nodup) (hl : nv.length ≤ 14) (hd : ∀ n ∈ nv, n.d.dl.length ≤ 14) : (clnI M).length ≤ 196 := by
  have h1 := len_clnI M
  have h2 := depsU_len hd
  have h3 := len_sub hn (k := depsU nv) fun x hx => by
    have hs : ∀ z, ∀ y ∈ stepsV (webL nv) z, y ∈ depsU nv := fun z y hy => by
      unfold stepsV ndOf at hy
      cases q : getV (webL nv) z with
      | none => rw [q] at hy; cases hy
      | some n =>
        rw [q] at hy
        exact depsU_mem n (webL_mem nv _ ((getV_some (webL_nodup nv)).1 q)).1 y hy
    cases (h x).1 hx with
    | one hy => exact hs _ _ hy
    | more _ hy => exact hs _ _ hy
  have h4 : nv.length * 14 ≤ 14 * 14 := Nat.mul_le_mul_right _ hl
  omega
/-- The k-th instance of a row, in any later world. -/
theorem row_at {W0 w : World} {base n c : Nat} {a : Option Addr} {l : List I3} (h : IK.Own W0 base (.slice a n c) l) (hb : Below W0.heap.size W0 w) (k : Nat) (hk : k < l.length) {x1 x2 x3 : Int} (hx : l[k] = (x1, x2, x3)) : ∃ g, a = some ⟨g, 0, none⟩ ∧ w.cell? ⟨g, k * 3, none⟩ = some (.int .i64 x1) ∧ w.cell? ⟨g, k * 3 + 1, none⟩ = some (.int .i64 x2) ∧ w.cell? ⟨g, k * 3 + 2, none⟩ = some (.int .i64 x3) := by
  obtain ⟨g, ha, hg, _, h0, h1, h2⟩ := ik_cell (h.below hb) k hk hx
  exact ⟨g, ha, h0, h1, h2⟩
theorem own_ok {l : List I3} {U : List I3} (hU : okL U) (h : ∀ x ∈ l, x ∈ U) : okL l := fun x hx => hU x (h x hx)
def RowP1 (w : World) (l : List I3) (e : Ending) (w' : World) : Prop := ∃ a c, Hid (e = .returned (.slice a l.length c)) ∧ IK.Own w' 0 (.slice a l.length c) l ∧ Below w.heap.size w w'
/-- What Reach and Ready answer, told of the nodes that came in. -/
structure GrIn (W : World) (v vd : Value) (nv : List NV) (dn : List I3) : Prop where
  row : NRow W v nv
  don : IK.Rd W vd dn
  ok : okL dn
  few : Fw nv dn
  one : (nv.map (·.d.id)).Nodup
theorem GrIn.below {W W' : World} {v vd : Value} {nv : List NV} {dn : List I3} (h : GrIn W v vd nv dn) (hb : Below W.heap.size W W') : GrIn W' v vd nv dn := ⟨h.row.below hb, h.don.below hb, h.ok, h.few, h.one⟩
theorem GrIn.none {W : World} {v vd : Value} {nv : List NV} {dn : List I3} (h : GrIn W v vd nv dn) : GrIn W v (.slice none 0 0) nv [] := ⟨h.row, Knd.Rd.nil _, (fun x hx => by cases hx), ⟨h.few.few, h.few.steps, Nat.zero_le _⟩, h.one⟩
theorem GrIn.ulen {W : World} {v vd : Value} {nv : List NV} {dn : List I3} (h : GrIn W v vd nv dn) : (depsU nv).length ≤ 900 := by
  have h1 := depsU_len h.few.steps
  have h4 : nv.length * 14 ≤ 14 * 14 := Nat.mul_le_mul_right _ h.few.few
  omega
theorem GrIn.reach {W : World} {v vd : Value} {nv : List NV} {dn : List I3} (h : GrIn W v vd nv dn) (i1 i2 i3 : Int) (hi : okI (i1, i2, i3)) : Calls Try.prog 18 #[v, .agg #[.int .i64 i1, .int .i64 i2, .int .i64 i3]] W (fun e w' => ∃ l, (∀ x, x ∈ l ↔ Rch (stepsV (webL nv)) (i1, i2, i3) x) ∧ l.length ≤ 196 ∧ okL l ∧ RowP1 W l e w') := by
  have hf := h.few
  refine (reach_any h.row (by have := hf.few; omega) ⟨by have := hf.few; omega, h.one⟩ i1 i2 i3 hi (depsU nv) depsU_mem h.ulen (depsU_ok h.row.ok)).mono ?_
  rintro e w' ⟨M, hM, hn, v', rfl, ho, hb⟩
  obtain ⟨a, c, ev⟩ := ho.slice
  subst ev
  refine ⟨clnI M, fun x => (mem_clnI _ _).trans (hM x), len_reach hM hn hf.few hf.steps, fun x hx => ?_, a, c, Lib.hid rfl, ho.base (Nat.zero_le _), hb⟩
  have hs : ∀ z, ∀ y ∈ stepsV (webL nv) z, y ∈ depsU nv := fun z y hy => by
    unfold stepsV ndOf at hy
    cases q : getV (webL nv) z with
    | none => rw [q] at hy; cases hy
    | some n =>
      rw [q] at hy
      exact depsU_mem n (webL_mem nv _ ((getV_some (webL_nodup nv)).1 q)).1 y hy
  cases (hM x).1 ((mem_clnI _ _).1 hx) with
  | one hy => exact depsU_ok h.row.ok _ (hs _ _ hy)
  | more _ hy => exact depsU_ok h.row.ok _ (hs _ _ hy)
theorem keys_ok {W : World} {nv : List NV} {cur : List (I3 × NV)} {dn : List I3} (hr : ∀ n ∈ nv, n.Ok W) (h : RdyIs (webL nv) cur dn) : okL (keysV cur) := fun x hx => by
  obtain ⟨n, q⟩ := mem_keys.1 hx
  have q3 := webL_mem nv _ ((getV_some (webL_nodup nv)).1 (h.sub _ _ q).1)
  rw [show x = n.d.id from q3.2]
  exact (hr _ q3.1).1
theorem GrIn.ready {W : World} {v vd : Value} {nv : List NV} {dn : List I3} (h : GrIn W v vd nv dn) : Calls Try.prog 20 #[v, vd] W (fun e w' => ∃ cur l, RdyIs (webL nv) cur dn ∧ (keysV cur).Nodup ∧ l = clnI (keysV cur) ∧ l.length ≤ 14 ∧ okL l ∧ RowP1 W l e w') := by
  have hf := h.few
  refine (readyR_any h.row (by have := hf.few; omega) h.one h.don h.ok (by have := hf.over; omega) (depsU nv) (fun n hn => ⟨depsU_mem n hn, by have := hf.steps n hn; omega⟩) h.ulen).mono ?_
  rintro e w' ⟨cur, hri, hn, v', rfl, ho, hb⟩
  obtain ⟨a, c, ev⟩ := ho.slice
  subst ev
  exact ⟨cur, clnI (keysV cur), hri, hn, rfl, len_rows hri hn hf.few, fun x hx => keys_ok h.row.ok hri x ((mem_clnI _ _).1 hx), a, c, Lib.hid rfl, ho.base (Nat.zero_le _), hb⟩
theorem GrIn.order {W : World} {v vd : Value} {nv : List NV} {dn : List I3} (h : GrIn W v vd nv dn) : Calls Try.prog 13 #[v, vd] W (OrdP nv dn W) := by
  have hf := h.few
  exact gorder_any h.row (by have := hf.few; omega) h.one h.don h.ok (by have := hf.over; omega) (depsU nv) (fun n hn => ⟨depsU_mem n hn, by have := hf.steps n hn; omega⟩) h.ulen
theorem GrIn.order2 {W : World} {v vd : Value} {nv : List NV} {dn : List I3} (h : GrIn W v vd nv dn) : Calls Try.prog 13 #[v, vd] W (OrdP2 nv dn W) := by
  have hf := h.few
  exact gorder_any2 h.row (by have := hf.few; omega) h.one h.don h.ok (by have := hf.over; omega) (depsU nv) (fun n hn => ⟨depsU_mem n hn, by have := hf.steps n hn; omega⟩) h.ulen
end Go.Proofs.Ytlckjpjcfalfnaa
