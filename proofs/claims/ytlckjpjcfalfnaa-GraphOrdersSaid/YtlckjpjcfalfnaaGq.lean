/-
  Graph: a map of rows of instances, each of its own.
-/
import Derived.Test.YtlckjpjcfalfnaaGr
import Derived.WideKeyEntry
namespace Go.Proofs.Ytlckjpjcfalfnaa
open Go.RowKit Go.Sort
open Go.WideMaps
set_option linter.unusedSimpArgs false
set_option linter.unusedVariables false
set_option maxRecDepth 100000

def Next (w : World) (v v' : Value) : Prop := ∀ k, v'.ownBlock = some k → v.ownBlock = some k ∨ w.heap.size ≤ k
theorem Next.refl (w : World) (v : Value) : Next w v v := fun k h => .inl h
/-- An append's row is the old one, or a new one. -/
theorem append_next {P : Program} (w : World) (t ty e : TypeId) (i : TypeInfo) (z : Value) (base : Nat) (ht : P.underlying t = some (.slice e)) (hi : P.info? e = some i) (hz : i.zero = some z)
    (v : Value) (n : Nat) (xs : List Value) (hown : w.ownsRow base e i.size v n xs) (hsz : 0 < i.size)
    (a : Addr) (m c : Nat) (news : List Value) (hl : news.length = m * i.size) (hnews : ∀ j u, news[j]? = some u → w.cell? (a.add j) = some u) (h1 : ∀ u ∈ news, u.oneCell' = true)
    (h63 : n + m ≤ maxLen) (hbytes : (n + m) * i.bytes ≤ 140737488355328) (v' : Value) (w' : World)
    (hr : (Builtin.append_ #[t, t] ty #[v, .slice (some a) m c]).run P w = .ok v' w') : Next w v v' := by
  have hsm : n + m ≤ 9223372036854775807 := by unfold maxLen at h63; omega
  rcases hown.2 with ⟨rfl, rfl⟩ | ⟨g, cap, cur, rfl, hbg, hg, hnc, hcm, hcs, htake⟩
  · by_cases hm : m = 0
    · subst hm
      have hn : news = [] := List.eq_nil_of_length_eq_zero (by simpa using hl)
      subst hn
      have q : (Builtin.append_ #[t, t] ty #[.slice none 0 0, .slice (some a) 0 c]).run P w = .ok (.slice none 0 0) w := by
        simp [Builtin.append_, run_underlying ht, sizeOf, typeInfo, hi, Builtin.lenOf, Builtin.firstCells, loadCells, loadCellsFrom]
      rw [q] at hr
      simp only [Result.ok.injEq] at hr
      rw [← hr.1]
      exact Next.refl _ _
    · have q := run_append_nil (P := P) w t ty e i z ht hi hz a m c news hl hnews (by omega) (by omega) (by have hb := hbytes; simp only [Nat.zero_add] at hb; omega)
      rw [q] at hr
      simp only [Result.ok.injEq] at hr
      rw [← hr.1]
      intro k hk
      simp [Value.ownBlock] at hk
      omega
  · by_cases hroom : n + m ≤ cap
    · have hfit : n * i.size + news.length ≤ cur.size := by rw [hl, hcs, ← Nat.add_mul]; exact Nat.mul_le_mul_right _ hroom
      have q := run_append_room (P := P) w t ty e i ht hi g n cap cur hg a m c news hl hnews h1 hroom hfit
      rw [q] at hr
      simp only [Result.ok.injEq] at hr
      rw [← hr.1]
      intro k hk
      exact .inl hk
    · have holds : ∀ j u, xs[j]? = some u → w.cell? ((⟨g, 0, none⟩ : Addr).add j) = some u := hown.cells (g := g) rfl
      have q := run_append_grow (P := P) w t ty e i z ht hi hz ⟨g, 0, none⟩ n cap xs hown.1 holds a m c news hl hnews (by omega) (by omega) (growslice_fits (by omega) hbytes)
      rw [q] at hr
      simp only [Result.ok.injEq] at hr
      rw [← hr.1]
      intro k hk
      simp [Value.ownBlock] at hk
      omega
section
variable {P : Program} {α : Type} {ops : Array Oper} {rest : List Oper} {o : Oper} {a : Act} {w : World} {Q : Exit → Act → World → Prop}
/-- 'append(l, x...)', told with where the row then lies. -/
theorem Knd.app2 (K : Knd P α) (hw : Region.wanted o (yielded ops a.tmps) = true) (s x : Operand) (ho : o.op = .call { callee := .builtin .append, args := #[s, x], argTypes := #[K.S, K.S] })
    (base : Nat) (v : Value) (l : List α) (hs : a.eval s = v) (hown : K.Own w base v l) (g : Nat) (c : Nat) (ks : List α) (hx : a.eval x = .slice (some ⟨g, 0, none⟩) ks.length c) (hks : K.Rd w (.slice (some ⟨g, 0, none⟩) ks.length c) ks) (hne : ks ≠ [])
    (hl : l.length + ks.length ≤ 1000000) (hbase : base ≤ w.heap.size)
    (h : ∀ v' w', K.Own w' base v' (l ++ ks) → Below base w w' → w.grownBy w' v.ownBlock → Next w v v' → wpList P ops Q rest (a.put o.dst v') w') : wpList P ops Q (o :: rest) a w := by
  obtain ⟨v', w', hr, q1, q2, q3, q4⟩ := K.run_app hown _ ks hks (fun _ _ => trivial) hl hbase o.type
  have hN : Next w v v' := by
    obtain ⟨i0, hi, hz0, hz1, hz2⟩ := info_parts K.info
    obtain ⟨_, g2, off, ha, hg, hc⟩ := hks.at hne
    simp only [Option.some.injEq, Addr.mk.injEq, and_true] at ha
    obtain ⟨rfl, rfl⟩ := ha
    have hs2 := K.small
    have hB : (l.length + ks.length) * K.B ≤ 140737488355328 := by
      have h2 : (l.length + ks.length) * K.B ≤ 1000000 * 100000 := Nat.mul_le_mul hl hs2
      omega
    obtain ⟨a3, c3, e3, hlen3, _, hrd⟩ := hks
    rcases hrd with h0 | ⟨g3, off3, ha3, _, hc3⟩
    · exact absurd h0 hne
    · simp only [Value.slice.injEq] at e3
      obtain ⟨e4, _, _⟩ := e3
      rw [← e4] at ha3
      simp only [Option.some.injEq, Addr.mk.injEq, and_true] at ha3
      obtain ⟨rfl, rfl⟩ := ha3
      refine append_next (P := P) w K.S o.type K.T i0 K.z base K.und hi hz0 v l.length (K.row l) (by rw [hz1]; exact hown) (by rw [hz1]; exact K.pos) ⟨g, 0, none⟩ ks.length c (K.row ks) (by rw [hz1]; exact K.row_len ks) (fun j u hj => ?_) (K.row_one ks) (by unfold maxLen; omega) (by rw [hz2]; exact hB) v' w' hr
      have := hc3 j u hj
      by_cases h0 : j = 0
      · subst h0; simpa [Addr.add] using this
      · simpa [Addr.add, h0] using this
  refine wpList_value hw _ w' ?_ (h v' w' q1 q2 q3 hN)
  unfold execOp
  simp only [ho, resolve, invoke, builtin, Sem.run_bind, Sem.run_pure, Result.andThen_ok, List.map_toArray, List.map_cons, List.map_nil, hs, hx, hr]
end
/-- A row in a map. -/
structure SV where
  a : Option Addr
  c : Nat
  ids : List I3
abbrev encS (s : SV) : Value := .slice s.a s.ids.length s.c
theorem idKL : KeyLaw Try.prog 25 := deep_law_laid laidOutI (m := 3) (by omega) idRow (by kernel_rfl) idWide
theorem set_mapTurned {w : World} {b : Nat} {es es' : Array MapEntry} {c c' : Nat} (hb : w.heap[b]? = some (.map es c)) : w.mapTurned (ChangeMaps.setBlock w b (.map es' c')) b := ⟨es, c, es', c', hb, rfl⟩
theorem MV.entry {α : Type} {enc : α → Value} {w : World} {b : Nat} {l : List (I3 × α)} {t e : TypeId} (h : MV enc w b l) (ht : Try.prog.underlying t = some (.map 25 e)) {z : Value} (hz : ∀ u, (zeroValue e).run Try.prog u = .ok z u) (hn : l.length < maxLen) {x : I3} (hx : okI x) :
    ∃ st w1, (Instr.mapEntry t (.map (some b)) (idV x)).run Try.prog w = .ok (.tuple #[((getV l x).map enc).getD z, goInt st]) w1 ∧ w.mapTurned w1 b ∧
      ∀ (w2 : World) (c : α), w2.heap[b]? = w1.heap[b]? → ∃ w3, (Instr.entryStore t (.map (some b)) (goInt st) (enc c)).run Try.prog w2 = .ok () w3 ∧ MV enc w3 b (putV l x c) ∧ w2.mapTurned w3 b := by
  obtain ⟨D, ⟨es, ck, hb, F, hs, hD⟩, _⟩ := h.own
  obtain ⟨v0, st, es1, ck1, hr, hv, hback⟩ := WideElems.entry_then_store idKL ht hz hb F (kf_key hx)
  have hlk := h.look ht (hz w) hx
  have hv0 : v0 = ((getV l x).map enc).getD z := by
    rcases Maps.fit_look false idLaw ht (hz w) hb F (kf_key hx) with ⟨hrun, hno, _⟩ | ⟨e0, y, hm0, hk0, hrun, hR2, hat2, _⟩
    · rw [hrun] at hlk
      rcases hv with ⟨e1, hm1, hk1, _⟩ | ⟨_, hv⟩
      · exact absurd hk1 (hno e1 hm1)
      · rw [hv]; exact (Result.ok.inj hlk).1
    · rw [hrun] at hlk
      rcases hv with ⟨e1, hm1, hk1, hv⟩ | ⟨hno, _⟩
      · have h1 := (Result.ok.inj hlk).1
        rw [hv, ← h1]
        have h2 := WideElems.atKey_some idKL F (kf_key hx) hm1 hk1 (z := (.held e1.val, [])) rfl (.held z)
        rw [hat2 (.held z)] at h2
        have h3 : y.1 = .held e0.val := by have := (Option.some.inj hR2); rw [← this]
        rw [h3] at h2
        injection h2 with h4
        exact h4.symm
      · exact absurd hk0 (hno e0 hm0)
  refine ⟨st, _, by rw [hr, hv0], set_mapTurned hb, fun w2 c hw2 => ?_⟩
  rw [ChangeMaps.heap_setBlock_same hb] at hw2
  obtain ⟨es', ck', hs3, hmu⟩ := hback w2 (enc c) hw2
  obtain ⟨w', hr', hm', _⟩ := h.put ht hn hx c
  rw [hmu] at hr'
  have e := (Result.ok.inj hr').2
  refine ⟨_, hs3, hm'.same ?_, set_mapTurned hw2⟩
  rw [ChangeMaps.heap_setBlock_same hw2, ← e, ChangeMaps.heap_setBlock_same hb]
section
variable {α : Type} {ops : Array Oper} {rest : List Oper} {o : Oper} {a : Act} {w : World} {Q : Exit → Act → World → Prop}
theorem wpList_entry_mv (hg : o.guard = none) (m x : Operand) (t : TypeId) (hop : o.op = Op.mapEntry t m x) (e : TypeId) (ht : Try.prog.underlying t = some (.map 25 e)) (enc : α → Value) (b : Nat) (l : List (I3 × α))
    (hm : a.eval m = .map (some b)) (h : MV enc w b l) (hn : l.length < maxLen) (k : I3) (hx : a.eval x = idV k) (hk : okI k) (z : Value) (hz : ∀ u, (zeroValue e).run Try.prog u = .ok z u) (v : Value) (hv : ((getV l k).map enc).getD z = v)
    (hK : ∀ (st : Int) (w1 : World), w.mapTurned w1 b → (∀ (w2 : World) (c : α), w2.heap[b]? = w1.heap[b]? → ∃ w3, (Instr.entryStore t (.map (some b)) (.int .i64 st) (enc c)).run Try.prog w2 = .ok () w3 ∧ MV enc w3 b (putV l k c) ∧ w2.mapTurned w3 b) → wpList Try.prog ops Q rest (a.put o.dst (.tuple #[v, .int .i64 st])) w1) : wpList Try.prog ops Q (o :: rest) a w := by
  refine wpList_plain hg fun K' hK' => ?_
  obtain ⟨st, w1, hrun, ht1, hback⟩ := h.entry ht hz hn hk
  rw [hv] at hrun
  have hK2 := hK st w1 ht1 hback
  unfold Oper.wp
  simp only [goInt] at hrun
  simp [execOp, hop, hm, hx, hrun, Result.andThen]
  exact hK' _ _ hK2
theorem wpList_entrySt (hg : o.guard = none) (m s x : Operand) (t : TypeId) (hop : o.op = Op.entryStore t m s x) (b : Nat) (st : Int) (val : Value) (w3 : World) (hm : a.eval m = .map (some b)) (hs : a.eval s = .int .i64 st) (hv : a.eval x = val)
    (hr : (Instr.entryStore t (.map (some b)) (.int .i64 st) val).run Try.prog w = .ok () w3) (hK : wpList Try.prog ops Q rest (a.put o.dst undef) w3) : wpList Try.prog ops Q (o :: rest) a w := by
  refine wpList_plain hg fun K' hK' => ?_
  unfold Oper.wp
  simp [execOp, hop, hm, hs, hv, hr, Result.andThen]
  exact hK' _ _ hK
end
end Go.Proofs.Ytlckjpjcfalfnaa
