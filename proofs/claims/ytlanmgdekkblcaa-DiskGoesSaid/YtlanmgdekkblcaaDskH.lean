/-
  A disk beside a row of texts: neither writes over the other one.
-/
import Derived.Test.YtlanmgdekkblcaaDskM
namespace Go.Proofs.Ytlanmgdekkblcaa
open Go.RowKit
set_option linter.unusedSimpArgs false
set_option linter.unusedVariables false

theorem Own1.blk {w : World} {base e : Nat} {v : Value} {vs : List Value} (h : Own1 w base e v vs) : ∀ k, v.ownBlock = some k → ∃ cs fr, w.heap[k]? = some (.cells cs e fr) := by
  intro k hk
  rcases h.2 with ⟨rfl, _⟩ | ⟨g, cap, cur, rfl, hg, hh, _⟩
  · cases hk
  · simp [Value.ownBlock] at hk
    subst hk
    exact ⟨_, _, hh⟩
theorem Own8.blk {w : World} {base : Nat} {v : Value} {xs : List Int} (h : Own8 w base v xs) : ∀ k, v.ownBlock = some k → ∃ cs fr, w.heap[k]? = some (.cells cs 5 fr) := by
  intro k hk
  rcases h.2 with ⟨rfl, _⟩ | ⟨g, cap, cur, rfl, hg, hh, _⟩
  · cases hk
  · simp [Value.ownBlock] at hk
    subst hk
    exact ⟨_, _, hh⟩
theorem Own1.keepB {w w' : World} {base e : Nat} {v : Value} {vs : List Value} (h : Own1 w base e v vs) (hk : ∀ k, v.ownBlock = some k → w'.heap[k]? = w.heap[k]?) : Own1 w' base e v vs := by
  obtain ⟨h1, h2⟩ := h
  refine ⟨h1, ?_⟩
  rcases h2 with h2 | ⟨g, cap, cur, hv, hg, hh, hr⟩
  · exact .inl h2
  · exact .inr ⟨g, cap, cur, hv, hg, (hk g (by rw [hv]; rfl)).trans hh, hr⟩
theorem blk_ne {w : World} {k : Nat} {s t : TypeId} (hst : s ≠ t) (h1 : ∃ cs fr, w.heap[k]? = some (.cells cs s fr)) (h2 : ∃ cs fr, w.heap[k]? = some (.cells cs t fr)) : False := by
  obtain ⟨cs, fr, h1⟩ := h1
  obtain ⟨cs2, fr2, h2⟩ := h2
  rw [h1] at h2
  simp only [Option.some.injEq, Obj.cells.injEq] at h2
  exact hst h2.2.1
/-- What a disk's call writes is no row of texts. -/
theorem Own1.disk {w w' : World} {base B p : Nat} {l v : Value} {vs : List Value} {bs : List Int} {last : Nat} (h : Own1 w base 9 l vs) (d : DAt w B p v bs last) (hf : Foot w w' p v) : Own1 w' base 9 l vs :=
  h.keepB fun k hk => by
    have hb := h.blk k hk
    obtain ⟨cs, fr, hh⟩ := hb
    refine hf.block k (Array.getElem?_eq_some_iff.1 hh).1 ?_ ?_
    · rintro rfl
      exact blk_ne (by decide) ⟨cs, fr, hh⟩ d.blk
    · intro e
      exact blk_ne (by decide) ⟨cs, fr, hh⟩ (d.own.blk k e.symm)
/-- A row of texts that grows is no disk's. -/
theorem DAt.beside {w w' : World} {base B p : Nat} {l v : Value} {vs : List Value} {bs : List Int} {last : Nat} (d : DAt w B p v bs last) (h : Own1 w base 9 l vs) (hg : w.grownBy w' l.ownBlock) : DAt w' B p v bs last :=
  d.keep hg.size (hg.block p d.lt (fun e => blk_ne (by decide) (h.blk p e.symm) d.blk)) (fun k hk => hg.block k (d.own.lt k hk) (fun e => blk_ne (by decide) (h.blk k e.symm) (d.own.blk k hk)))
theorem Foot.below_in {w w1 w2 : World} {p : Nat} {v : Value} (h : Foot w w1 p v) (hb : Below w.heap.size w1 w2) : Foot w w2 p v :=
  ⟨hb.os.trans h.os, hb.tape.trans h.tape, hb.output.trans h.output, Nat.le_trans h.size hb.size, fun k h1 h2 h3 => (hb.block k h1).trans (h.block k h1 h2 h3)⟩
/-- An append's row is the old one, or a new one. -/
theorem append_next {P : Program} (w : World) (t ty e : TypeId) (i : TypeInfo) (z : Value) (base : Nat) (ht : P.underlying t = some (.slice e)) (hi : P.info? e = some i) (hz : i.zero = some z)
    (v : Value) (n : Nat) (xs : List Value) (hown : w.ownsRow base e i.size v n xs) (hsz : 0 < i.size)
    (a : Addr) (m c : Nat) (news : List Value) (hl : news.length = m * i.size) (hnews : ∀ j u, news[j]? = some u → w.cell? (a.add j) = some u) (h1 : ∀ u ∈ news, u.oneCell' = true)
    (h63 : n + m ≤ maxLen) (hbytes : (n + m) * i.bytes ≤ 140737488355328) (v' : Value) (w' : World)
    (hr : (Builtin.append_ #[t, t] ty #[v, .slice (some a) m c]).run P w = .ok v' w') : Next w v v' := by
  have hsm : n + m ≤ 9223372036854775807 := by unfold maxLen at h63; omega
  rcases hown.2 with ⟨rfl, rfl⟩ | ⟨g, cap, cur, rfl, hbg, hg, hnc, hcm, hcs, htake⟩
  · by_cases hm : m = 0
    · subst hm
      have hn : news = [] := List.eq_nil_of_length_eq_zero (by simpa using hl)
      subst hn
      have q : (Builtin.append_ #[t, t] ty #[.slice none 0 0, .slice (some a) 0 c]).run P w = .ok (.slice none 0 0) w := by
        simp [Builtin.append_, run_underlying ht, sizeOf, typeInfo, hi, Builtin.lenOf, Builtin.firstCells, loadCells, loadCellsFrom]
      rw [q] at hr
      simp only [Result.ok.injEq] at hr
      rw [← hr.1]
      exact Next.refl _ _
    · have q := run_append_nil (P := P) w t ty e i z ht hi hz a m c news hl hnews (by omega) (by omega) (by have hb := hbytes; simp only [Nat.zero_add] at hb; omega)
      rw [q] at hr
      simp only [Result.ok.injEq] at hr
      rw [← hr.1]
      intro k hk
      simp [Value.ownBlock] at hk
      omega
  · by_cases hroom : n + m ≤ cap
    · have hfit : n * i.size + news.length ≤ cur.size := by rw [hl, hcs, ← Nat.add_mul]; exact Nat.mul_le_mul_right _ hroom
      have q := run_append_room (P := P) w t ty e i ht hi g n cap cur hg a m c news hl hnews h1 hroom hfit
      rw [q] at hr
      simp only [Result.ok.injEq] at hr
      rw [← hr.1]
      intro k hk
      exact .inl hk
    · have holds : ∀ j u, xs[j]? = some u → w.cell? ((⟨g, 0, none⟩ : Addr).add j) = some u := hown.cells (g := g) rfl
      have q := run_append_grow (P := P) w t ty e i z ht hi hz ⟨g, 0, none⟩ n cap xs hown.1 holds a m c news hl hnews (by omega) (by omega) (growslice_fits (by omega) hbytes)
      rw [q] at hr
      simp only [Result.ok.injEq] at hr
      rw [← hr.1]
      intro k hk
      simp [Value.ownBlock] at hk
      omega
section
variable {ops : Array Oper} {rest : List Oper} {o : Oper} {a : Act} {w : World} {Q : Exit → Act → World → Prop}
/-- 'append(s, x...)' of bytes: told with what the row then is. -/
theorem wpList_app8N (hgd : o.guard = none) (s x : Operand) (ho : o.op = .call { callee := .builtin .append, args := #[s, x], argTypes := #[27, 27] })
    (base : Nat) (v : Value) (xs : List Int) (hs : a.eval s = v) (hown : Own8 w base v xs) (vy : Value) (ys : List Int) (hx : a.eval x = vy) (hy : Bt w vy ys) (hl : xs.length + ys.length ≤ 100000000000) (hbase : base ≤ w.heap.size)
    (h : ∀ v' w', Own8 w' base v' (xs ++ ys) → w.grownBy w' v.ownBlock → Next w v v' → wpList Try.prog ops Q rest (a.put o.dst v') w') : wpList Try.prog ops Q (o :: rest) a w := by
  obtain ⟨i0, hi, hz0, hz1, hz2⟩ := info_parts info8
  obtain ⟨ad, cap, rfl, h1, h2⟩ := hy.row
  cases ad with
  | none =>
    have hys : ys = [] := by
      rcases h1.2 with h0 | ⟨g, off, ha, _⟩
      · exact h0
      · cases ha
    subst hys
    obtain rfl := h2.1 rfl
    refine wpList_append_own_none hgd s x 27 ho base 5 i0 1 Try.underlying27 hi v xs.length (u8v xs) hs hown hx ?_
    exact h v w (by simpa using hown) ⟨rfl, rfl, rfl, Nat.le_refl _, fun _ _ _ => rfl⟩ (Next.refl _ _)
  | some ad =>
    have hq1 : (u8v ys).length = ys.length * 1 := by simp
    have hq2 : ∀ u ∈ u8v ys, u.oneCell' = true := by intro u hu; simp at hu; obtain ⟨z, _, rfl⟩ := hu; rfl
    have hq3 : xs.length + ys.length ≤ maxLen := by unfold maxLen; omega
    have hq4 : (xs.length + ys.length) * 1 ≤ 140737488355328 := by omega
    obtain ⟨v', w', hr, q1, q2, _⟩ := run_append_own (P := Try.prog) w base 27 o.type 5 i0 (.int .u8 0) 1 1 Try.underlying27 hi hz0 hz1 hz2 rfl (by decide) v xs.length (u8v xs) hown ad ys.length cap (u8v ys) hq1 (brd_news h1) hq2 hq3 hq4 hbase
    have hN := append_next (P := Try.prog) w 27 o.type 5 i0 (.int .u8 0) base Try.underlying27 hi hz0 v xs.length (u8v xs) (by rw [hz1]; exact hown) (by rw [hz1]; decide) ad ys.length cap (u8v ys) (by rw [hz1]; exact hq1) (brd_news h1) hq2 hq3 (by rw [hz2]; exact hq4) v' w' hr
    refine wpList_plain hgd fun K hK => ?_
    unfold Oper.wp execOp
    simp only [ho, resolve, invoke, builtin, Sem.run_bind, Sem.run_pure, Result.andThen_ok, List.map_toArray, List.map_cons, List.map_nil, hs, hx, hr]
    refine hK _ _ (h v' w' ?_ q2 hN)
    unfold Own8
    rw [List.length_append]
    have e : u8v (xs ++ ys) = u8v xs ++ u8v ys := by simp [u8v]
    rw [e]; exact q1
end
def ApN (B p : Nat) (v : Value) (ys : List Int) (last : Nat) (w : World) (e : Ending) (w' : World) : Prop := Hid (e = .returned (.int .i64 0)) ∧ ∃ v', DAt w' B p v' ys last ∧ Foot w w' p v ∧ Next w v v'
set_option maxHeartbeats 1000000 in
theorem append_nx (B p : Nat) (v : Value) (bs : List Int) (last : Nat) (vy : Value) (xs : List Int) (w : World) (h : DAt w B p v bs last) (hl : bs.length ≤ 1000000000) (hy : Bt w vy xs) (hx : ∀ x ∈ xs, 0 ≤ x ∧ x ≤ 255) (hxl : xs.length ≤ 16777215) :
    Calls Try.prog 18 #[.pointer (some ⟨p, 0, none⟩), vy] w (ApN B p v (bs ++ frm xs) last w) := by
  have H := Lib.hid h
  have HY := Lib.hid hy
  have HX := Lib.hid hx
  obtain ⟨a0, cy, rfl, _⟩ := hy.row
  obtain ⟨a, c, rfl⟩ := h.own.slice
  clear h hy hx
  go_enter Try.func18, Try.ntmps18
  go_wp2_with fail
  refine (put_good _ xs _ HY.out HX.out hxl).mono ?_
  rintro e w1 ⟨v1, he, hf, hb⟩
  subst he
  obtain ⟨a1, c1, rfl, _⟩ := hf.row
  have HF := Lib.hid hf
  have H1 := Lib.hid (H.out.below hb)
  have HB := Lib.hid hb
  have d0 := H1.out.c0
  have hB : B ≤ w1.heap.size := by have := H1.out.lt; have := H1.out.low; omega
  have hlx : bs.length + (frm xs).length ≤ 100000000000 := by rw [frm_length]; omega
  obtain ⟨F, hF⟩ : ∃ F, frm xs = F := ⟨_, rfl⟩
  rw [hF] at HF hlx ⊢
  have HFF := Lib.hid hF
  clear hf hb hF H
  go_wp2_with (refine wpList_app8N rfl _ _ rfl B _ bs rfl H1.out.own _ F rfl HF.out hlx hB ?_)
  intro v2 w2 ho hg hn
  obtain ⟨a2, c2, rfl⟩ := ho.slice
  have hm := H1.out.more hg ho
  have HM := Lib.hid hm.2
  have HN := Lib.hid hn
  have HS := Lib.hid HB.out.size
  obtain ⟨e0, e1⟩ := hm.1
  have HFt := Lib.hid (Foot.grown (p := p) HB.out hg)
  have hz : p < w2.heap.size := by have := hg.size; have := H1.out.lt; omega
  clear hm ho hg hn H1 HB HF
  go_wp2
  go_ret
  exact ⟨rfl, .slice a2 (bs.length + F.length) c2, by rw [HFF.out]; simpa using HM.out, by simpa using HFt.out.set 0 _, fun k hk => by
    rcases HN.out k (by simpa using hk) with q | q
    · exact .inl q
    · exact .inr (Nat.le_trans HS.out q)⟩
end Go.Proofs.Ytlanmgdekkblcaa
