/-
  Graph: rows of nodes that are put together.
-/
import Derived.Test.YtlckjpjcfalfnaaLp
namespace Go.Proofs.Ytlckjpjcfalfnaa
open Go.RowKit Go.Sort
open Go.WideMaps
set_option linter.unusedSimpArgs false
set_option linter.unusedVariables false
set_option maxRecDepth 100000

theorem ndC_len (n : NV) : (ndC n).length = 5 := rfl
theorem ndC_one (n : NV) : ∀ v ∈ ndC n, v.oneCell' = true := ndE_one rfl
/-- A node's cells. -/
def nvC (n : NV) : Cls 5 := ⟨ndC n, ndC_len n, ndC_one n⟩
theorem nk_rd {W : World} {v : Value} {nv : List NV} (h : NRow W v nv) (hz : ∀ n c, v = .slice none n c → c = 0) : NK.Rd W v (nv.map nvC) := by
  obtain ⟨a, c, e, hl, hel⟩ := h.el
  refine ⟨a, c, by rw [List.length_map]; exact e, by rw [List.length_map]; exact hl, fun q => hz nv.length c (by rw [← q]; exact e), ?_⟩
  cases hn : nv with
  | nil => exact .inl rfl
  | cons n0 l0 =>
    right
    have h0 : 0 < nv.length := by rw [hn]; simp
    obtain ⟨g, off, ha, hg, _⟩ := hel 0 h0
    refine ⟨g, off, ha, hg, fun t u hu => ?_⟩
    rw [← hn] at hu
    have ht : t < (NK.row (nv.map nvC)).length := (List.getElem?_eq_some_iff.1 hu).1
    rw [NK.row_flat _ t ht] at hu
    rw [NK.row_len, List.length_map] at ht
    have eK : NK.k = 5 := rfl
    rw [eK] at hu ht
    have hj : t / 5 < nv.length := by omega
    obtain ⟨g', off', ha', _, hc⟩ := hel (t / 5) hj
    rw [ha] at ha'
    simp only [Option.some.injEq, Addr.mk.injEq, and_true] at ha'
    obtain ⟨rfl, rfl⟩ := ha'
    have e5 : (nv.map nvC).getD (t / 5) NK.d = nvC nv[t / 5] := by simp [List.getD, hj]
    rw [e5] at hu
    have q := hc (t % 5) u hu
    rwa [show off + t / 5 * 5 + t % 5 = off + t by omega] at q
theorem nrow_rd {W : World} {v : Value} {nv : List NV} (h : NK.Rd W v (nv.map nvC)) (ho : ∀ n ∈ nv, n.Ok W) : NRow W v nv := by
  obtain ⟨a, c, e⟩ := h.slice
  rw [List.length_map] at e
  have hl := h.len
  rw [List.length_map] at hl
  refine ⟨⟨a, c, e, hl, fun j hj => ?_⟩, ho⟩
  subst e
  obtain ⟨-, g, off, ha, hg, hc⟩ := h.at (by intro e; have := congrArg List.length e; simp at this; subst this; simp at hj)
  refine ⟨g, off, ha, hg, fun i u hu => ?_⟩
  have e5 : (nv.map nvC).getD j NK.d = nvC nv[j] := by simp [List.getD, hj]
  have q := hc j hj i u (by rw [e5]; exact hu)
  have eK : NK.k = 5 := rfl
  rwa [eK] at q
/-- The smaller web's nodes are nodes of the bigger one. -/
theorem webL_more {l k : List NV} (h : ((l ++ k).map (·.d.id)).Nodup) : ∀ x n, getV (webL l) x = some n → getV (webL (l ++ k)) x = some n := fun x n q => by
  have h1 : (l.map (·.d.id)).Nodup := by rw [List.map_append, List.nodup_append] at h; exact h.1
  have q2 := (getV_some (webL_nodup l)).1 q
  rw [webL_all l h1] at q2
  obtain ⟨m, hm, e⟩ := List.mem_map.1 q2
  simp only [Prod.mk.injEq] at e
  obtain ⟨rfl, rfl⟩ := e
  exact webL_get h (List.mem_append_left _ hm)
theorem fw_more {l k : List NV} {dn : List I3} (h : Fw (l ++ k) dn) : Fw l dn := by
  refine ⟨?_, fun n hn => h.steps n (List.mem_append_left _ hn), h.over⟩
  have := h.few
  rw [List.length_append] at this
  omega
/-- 'append(l, x...)' of rows of one's own, up to the form's reach. -/
theorem Knd.run_app_by {P : Program} {α : Type} {K : Knd P α} {w : World} {base : Nat} {v : Value} {l : List α} (hown : K.Own w base v l) (vy : Value) (ks : List α) (hks : K.Rd w vy ks)
    (hl : l.length + ks.length ≤ 4000000) (hbase : base ≤ w.heap.size) (ty : TypeId) :
    ∃ v' w', (Builtin.append_ #[K.S, K.S] ty #[v, vy]).run P w = .ok v' w' ∧ K.Own w' base v' (l ++ ks) ∧ Below base w w' ∧ w.grownBy w' v.ownBlock := by
  obtain ⟨i0, hi, hz0, hz1, hz2⟩ := info_parts K.info
  obtain ⟨a, c, rfl, h1, h2, h3⟩ := hks
  cases a with
  | none =>
    have hk0 : ks = [] := by
      rcases h3 with h3 | ⟨g, off, ha, _⟩
      · exact h3
      · cases ha
    subst hk0
    have hc0 := h2 rfl
    subst hc0
    exact ⟨v, w, run_append_owned_none (P := P) (w := w) base K.S ty K.T i0 K.k K.und hi v l.length (K.row l) hown, by simpa using hown, Below.refl _ _, ⟨rfl, rfl, rfl, Nat.le_refl _, fun _ _ _ => rfl⟩⟩
  | some ad =>
    have hnews : ∀ j u, (K.row ks)[j]? = some u → w.cell? (ad.add j) = some u := by
      intro j u hj
      rcases h3 with h3 | ⟨g, off, ha, hg, hc⟩
      · subst h3; simp [Knd.row] at hj
      · simp only [Option.some.injEq] at ha
        subst ha
        have := hc j u hj
        by_cases h0 : j = 0
        · subst h0; simpa [Addr.add] using this
        · simpa [Addr.add, h0] using this
    have hs := K.small
    have hB : (l.length + ks.length) * K.B ≤ 140737488355328 := by
      have h2 : (l.length + ks.length) * K.B ≤ 4000000 * 100000 := Nat.mul_le_mul hl hs
      omega
    obtain ⟨v', w', hr, q1, q2, q3⟩ := run_append_own (P := P) w base K.S ty K.T i0 K.z K.k K.B K.und hi hz0 hz1 hz2 K.zc K.pos v l.length (K.row l) hown ad ks.length c (K.row ks) (K.row_len ks) hnews (K.row_one ks) (by unfold maxLen; omega) hB hbase
    refine ⟨v', w', hr, ?_, (Below.refl base w).grown q2 hbase hown.from, q2⟩
    unfold Knd.Own
    rw [List.length_append, K.row_app]
    exact q1
section
variable {P : Program} {α : Type} {ops : Array Oper} {rest : List Oper} {o : Oper} {a : Act} {w : World} {Q : Exit → Act → World → Prop}
/-- 'append(l, x...)', in a step of its own. -/
theorem Knd.app_by (K : Knd P α) (hw : Region.wanted o (yielded ops a.tmps) = true) (s x : Operand) (ho : o.op = .call { callee := .builtin .append, args := #[s, x], argTypes := #[K.S, K.S] })
    (base : Nat) (v : Value) (l : List α) (hs : a.eval s = v) (hown : K.Own w base v l) (vy : Value) (ks : List α) (hx : a.eval x = vy) (hks : K.Rd w vy ks)
    (hl : l.length + ks.length ≤ 4000000) (hbase : base ≤ w.heap.size)
    (h : ∀ v' w', K.Own w' base v' (l ++ ks) → Below base w w' → w.grownBy w' v.ownBlock → wpList P ops Q rest (a.put o.dst v') w') : wpList P ops Q (o :: rest) a w := by
  obtain ⟨v', w', hr, q1, q2, q3⟩ := K.run_app_by hown vy ks hks hl hbase o.type
  refine wpList_value hw _ w' ?_ (h v' w' q1 q2 q3)
  unfold execOp
  simp only [ho, resolve, invoke, builtin, Sem.run_bind, Sem.run_pure, Result.andThen_ok, List.map_toArray, List.map_cons, List.map_nil, hs, hx, hr]
end
/-- Nodes that came in, with what was read of them: as many as they are. -/
theorem nrowU_of_arg {H : Type} {enc : TypeId × Value → H} {w : World} {r : Reach} {b0 base : Nat} {spare : Nat → Bool} {held : Bool} {v : Value} {d : DataW H} {p : List MemPlace}
    (hv : Value.okWide Try.prog w r b0 22 v) (h : DataW.Trod enc Try.prog w base spare held 22 v d p) :
    ∃ nv, NRow w v nv ∧ (∀ n c, v = .slice none n c → c = 0) ∧ (nv.length = 0 ∨ ∃ elems spare, d = .slice elems spare ∧ elems.length = nv.length) := by
  obtain ⟨nv, hn⟩ := nrow_of_arg hv h
  obtain ⟨a, c, e, hl, hel⟩ := hn.el
  obtain ⟨fuel, hf⟩ := h
  subst e
  rcases Go.Deep.open_slice Try.underlying22 hf with ⟨e, hd⟩ | ⟨a', len, cap, m, n, D, Pl, e, _, _, _, _, hd, _⟩
  · simp [Value.cells] at e
    obtain ⟨rfl, e2, rfl⟩ := e
    exact ⟨nv, hn, fun n c q => by simp at q; exact q.2.symm, .inl (by rw [e2]; rfl)⟩
  · simp [Value.cells] at e
    obtain ⟨rfl, e2, rfl⟩ := e
    simp only [Prod.mk.injEq] at hd
    exact ⟨nv, hn, fun n c q => by simp at q, .inr ⟨_, _, hd.1, by simp [← e2]⟩⟩
end Go.Proofs.Ytlckjpjcfalfnaa
