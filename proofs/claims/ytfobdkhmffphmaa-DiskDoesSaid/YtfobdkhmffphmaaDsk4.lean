/-
  The walks of package disk: Append, and what is cut off.
-/
import Derived.Test.YtfobdkhmffphmaaDsk3
namespace Go.Proofs.Ytfobdkhmffphmaa
open Go.RowKit
set_option linter.unusedSimpArgs false
set_option linter.unusedVariables false

section
variable {ops : Array Oper} {rest : List Oper} {o : Oper} {a : Act} {w : World} {Q : Exit → Act → World → Prop}
/-- 'append(s, x...)' of bytes, s a row of one's own: told with what it may write. -/
theorem wpList_app8 (hgd : o.guard = none) (s x : Operand) (ho : o.op = .call { callee := .builtin .append, args := #[s, x], argTypes := #[27, 27] })
    (base : Nat) (v : Value) (xs : List Int) (hs : a.eval s = v) (hown : Own8 w base v xs) (vy : Value) (ys : List Int) (hx : a.eval x = vy) (hy : Bt w vy ys) (hl : xs.length + ys.length ≤ 100000000000) (hbase : base ≤ w.heap.size)
    (h : ∀ v' w', Own8 w' base v' (xs ++ ys) → w.grownBy w' v.ownBlock → wpList Try.prog ops Q rest (a.put o.dst v') w') : wpList Try.prog ops Q (o :: rest) a w := by
  obtain ⟨i0, hi, hz0, hz1, hz2⟩ := info_parts info8
  obtain ⟨ad, cap, rfl, h1, h2⟩ := hy.row
  cases ad with
  | none =>
    have hys : ys = [] := by
      rcases h1.2 with h0 | ⟨g, off, ha, _⟩
      · exact h0
      · cases ha
    subst hys
    obtain rfl := h2.1 rfl
    refine wpList_append_own_none hgd s x 27 ho base 5 i0 1 Try.underlying27 hi v xs.length (u8v xs) hs hown hx ?_
    exact h v w (by simpa using hown) ⟨rfl, rfl, rfl, Nat.le_refl _, fun _ _ _ => rfl⟩
  | some ad =>
    refine wpList_append_own _ hgd s x 27 ho base 5 i0 (.int .u8 0) 1 1 Try.underlying27 hi hz0 hz1 hz2 rfl (by decide) v xs.length (u8v xs) hs hown ad ys.length cap (u8v ys) hx (by simp) (brd_news h1) (by intro u hu; simp at hu; obtain ⟨z, _, rfl⟩ := hu; rfl) (by unfold maxLen; omega) (by omega) hbase ?_
    intro v' w' q1 q2 _
    refine h v' w' ?_ q2
    unfold Own8
    rw [List.length_append]
    have e : u8v (xs ++ ys) = u8v xs ++ u8v ys := by simp [u8v]
    rw [e]; exact q1
end
theorem own_same (a : Option Addr) (n m c d : Nat) : (Value.slice a n c).ownBlock = (Value.slice a m d).ownBlock := by cases a <;> rfl
theorem far_of {w : World} {B p : Nat} {v : Value} {xs : List Int} (h : Own8 w B v xs) (hb : ∃ cs fr, w.heap[p]? = some (.cells cs 48 fr)) : ∀ k, v.ownBlock = some k → k ≠ p := by
  rintro k hk rfl
  obtain ⟨cs, fr, hh⟩ := hb
  rcases h.2 with ⟨rfl, _⟩ | ⟨g, cap, cur, rfl, _, hg, _⟩
  · cases hk
  · simp [Value.ownBlock] at hk
    subst hk
    rw [hh] at hg
    simp only [Option.some.injEq, Obj.cells.injEq] at hg
    exact absurd hg.2.1 (by decide)
/-- Behind an append, and the store of what it came to. -/
theorem DAt.more {w w2 : World} {B p : Nat} {v v2 : Value} {bs ys : List Int} {last : Nat} (h : DAt w B p v bs last) (hg : w.grownBy w2 v.ownBlock) (ho : Own8 w2 B v2 ys) :
    (w2.cell? ⟨p, 0, none⟩ = some v ∧ w2.frozen? ⟨p, 0, none⟩ = false) ∧ DAt (w2.setCell ⟨p, 0, none⟩ v2) B p v2 ys last := by
  have hp : w2.heap[p]? = w.heap[p]? := hg.block p h.lt (fun e => h.far p e.symm rfl)
  have c0 := (World.cell?_of_block (a := ⟨p, 0, none⟩) hp).trans h.c0
  have c1 := (World.cell?_of_block (a := ⟨p, 1, none⟩) hp).trans h.c1
  have f0 := (World.frozen?_of_block (a := ⟨p, 0, none⟩) hp).trans h.f0
  have f1 := (World.frozen?_of_block (a := ⟨p, 1, none⟩) hp).trans h.f1
  have hblk : ∃ cs fr, w2.heap[p]? = some (.cells cs 48 fr) := by rw [hp]; exact h.blk
  have hf := far_of ho hblk
  have hlt := Nat.lt_of_lt_of_le h.lt hg.size
  exact ⟨⟨c0, f0⟩, by simpa using hlt, h.low, by simp [go_sem, c0], by simp [go_sem, c1], by simpa [go_sem] using f0, by simpa [go_sem] using f1, ho.set (fun k hk => hf k hk) _, hf, blk_set hblk _ _⟩
theorem Foot.grown {w w1 w2 : World} {p : Nat} {v : Value} (h : Below w.heap.size w w1) (hg : w1.grownBy w2 v.ownBlock) : Foot w w2 p v :=
  ⟨hg.os.trans h.os, hg.tape.trans h.tape, hg.output.trans h.output, Nat.le_trans h.size hg.size, fun k h1 _ h3 => (hg.block k (Nat.lt_of_lt_of_le h1 h.size) h3).trans (h.block k h1)⟩
def ApP (B p : Nat) (v : Value) (ys : List Int) (last : Nat) (w : World) (e : Ending) (w' : World) : Prop := Hid (e = .returned (.int .i64 0)) ∧ ∃ v', DAt w' B p v' ys last ∧ Foot w w' p v
set_option maxHeartbeats 1000000 in
theorem append_any (B p : Nat) (v : Value) (bs : List Int) (last : Nat) (vy : Value) (xs : List Int) (w : World) (h : DAt w B p v bs last) (hl : bs.length ≤ 1000000000) (hy : Bt w vy xs) (hx : ∀ x ∈ xs, 0 ≤ x ∧ x ≤ 255) (hxl : xs.length ≤ 16777215) :
    Calls Try.prog 14 #[.pointer (some ⟨p, 0, none⟩), vy] w (ApP B p v (bs ++ frm xs) last w) := by
  have H := Lib.hid h
  have HY := Lib.hid hy
  have HX := Lib.hid hx
  obtain ⟨a0, cy, rfl, _⟩ := hy.row
  obtain ⟨a, c, rfl⟩ := h.own.slice
  clear h hy hx
  go_enter Try.func14, Try.ntmps14
  go_wp2_with fail
  refine (put_good _ xs _ HY.out HX.out hxl).mono ?_
  rintro e w1 ⟨v1, he, hf, hb⟩
  subst he
  obtain ⟨a1, c1, rfl, _⟩ := hf.row
  have HF := Lib.hid hf
  have H1 := Lib.hid (H.out.below hb)
  have HB := Lib.hid hb
  have d0 := H1.out.c0
  have hB : B ≤ w1.heap.size := by have := H1.out.lt; have := H1.out.low; omega
  have hlx : bs.length + (frm xs).length ≤ 100000000000 := by rw [frm_length]; omega
  obtain ⟨F, hF⟩ : ∃ F, frm xs = F := ⟨_, rfl⟩
  rw [hF] at HF hlx ⊢
  have HFF := Lib.hid hF
  clear hf hb hF H
  go_wp2_with (refine wpList_app8 rfl _ _ rfl B _ bs rfl H1.out.own _ F rfl HF.out hlx hB ?_)
  intro v2 w2 ho hg
  obtain ⟨a2, c2, rfl⟩ := ho.slice
  have hm := H1.out.more hg ho
  have HM := Lib.hid hm.2
  obtain ⟨e0, e1⟩ := hm.1
  have HFt := Lib.hid (Foot.grown (p := p) HB.out hg)
  have hz : p < w2.heap.size := by have := hg.size; have := H1.out.lt; omega
  clear hm ho hg H1 HB HF
  go_wp2
  go_ret
  exact ⟨rfl, .slice a2 (bs.length + F.length) c2, by rw [HFF.out]; simpa using HM.out, by simpa using HFt.out.set 0 _⟩
def CtP (B p : Nat) (v : Value) (ys : List Int) (w : World) (e : Ending) (w' : World) : Prop := Hid (e = .returned (.tuple #[])) ∧ ∃ v', v'.ownBlock = v.ownBlock ∧ DAt w' B p v' ys ys.length ∧ Foot w w' p v
set_option maxHeartbeats 1000000 in
theorem cut_any (B p : Nat) (v : Value) (bs : List Int) (last n : Nat) (w : World) (h : DAt w B p v bs last) (hl : bs.length ≤ 1000000000) (hn : n ≤ bs.length) :
    Calls Try.prog 20 #[.pointer (some ⟨p, 0, none⟩), .int .i64 n] w (CtP B p v (bs.take n) w) := by
  have H := Lib.hid h
  obtain ⟨a, c, rfl⟩ := h.own.slice
  have hcap : n ≤ c := by
    rcases h.own.2 with ⟨hv, h0⟩ | ⟨g, cap, cur, hv, _, _, hnc, _⟩
    · omega
    · simp only [Value.slice.injEq] at hv; omega
  have hA : Hid ((if c = 0 then a else a.map (·.add (0 * 1))) = a) := Lib.hid (by
    rcases h.own.2 with ⟨hv, h0⟩ | ⟨g, cap, cur, hv, _⟩
    · simp only [Value.slice.injEq] at hv
      rw [hv.1]; simp
    · simp only [Value.slice.injEq] at hv
      rw [hv.1]
      split
      · rfl
      · simp [Addr.add])
  have c0 := h.c0
  have f0 := h.f0
  have lt := h.lt
  clear h
  go_enter Try.func20, Try.ntmps20
  have hd := H.out.setBytes (H.out.own.take hn) (fun k hk => H.out.far k ((own_same a bs.length n c c).trans hk))
  have HD := Lib.hid hd
  have hle : (bs.take n).length ≤ 1000000000 := by simp; omega
  clear hd
  go_wp2_with fail
  refine (sync_any B p (.slice a n c) (bs.take n) last _ HD.out hle).mono ?_
  rintro e w1 ⟨he, hd, hf⟩
  subst he
  have HD1 := Lib.hid hd
  have HF := Lib.hid (((Foot.refl w p (.slice a bs.length c)).set 0 (.slice a n c)).trans hf (fun k hk => .inl ((own_same a bs.length n c c).trans hk)))
  clear hd hf
  go_wp2
  go_end0
  exact ⟨rfl, .slice a n c, own_same a n bs.length c c, HD1.out, HF.out⟩
theorem totL_allF (f : Nat) : ∀ b : List Int, totL (allF f b) ≤ b.length := by
  induction f with
  | zero => intro b; simp [allF, totL]
  | succ f ih =>
    intro b
    unfold allF
    by_cases c : (tkN b).2.2 = 0
    · rw [if_pos c]
      have h1 := tkN_ok b c
      have h2 := ih (b.drop (8 + (tkN b).1.length))
      simp only [totL, List.map_cons, List.sum_cons] at h2 ⊢
      simp at h2
      omega
    · rw [if_neg c]; simp [totL]
theorem totL_allN (b : List Int) : totL (allN b) ≤ b.length := totL_allF _ b
theorem ownsRow_keep {w w' : World} {base e size n : Nat} {v : Value} {xs : List Value} (h : w.ownsRow base e size v n xs) (hk : ∀ k, base ≤ k → k < w.heap.size → w'.heap[k]? = w.heap[k]?) : w'.ownsRow base e size v n xs := by
  obtain ⟨h1, h2⟩ := h
  refine ⟨h1, ?_⟩
  rcases h2 with h2 | ⟨g, cap, cur, hv, hg, hh, hr⟩
  · exact .inl h2
  · exact .inr ⟨g, cap, cur, hv, hg, (hk g hg (Array.getElem?_eq_some_iff.1 hh).1).trans hh, hr⟩
/-- Bodies that were told, in memory of their own from a block on. -/
def RowsF (w : World) (base : Nat) (lv : Value) (L : List (List Int)) : Prop := ∃ xs : List Bd, xs.map (·.2) = L ∧ w.ownsRow base 27 1 lv xs.length (xs.map (·.1)) ∧ Rows8 base xs w ∧ ∀ X ∈ L, X.length ≤ 9223372036854775807
theorem RowsF.row {w : World} {base : Nat} {lv : Value} {L : List (List Int)} (h : RowsF w base lv L) : AllRow w lv L := by
  obtain ⟨xs, hm, hr, h8, hl⟩ := h
  exact allrow_of hm hr h8 hl
theorem RowsF.keep {w w' : World} {base : Nat} {lv : Value} {L : List (List Int)} (h : RowsF w base lv L) (hk : ∀ k, base ≤ k → k < w.heap.size → w'.heap[k]? = w.heap[k]?) : RowsF w' base lv L := by
  obtain ⟨xs, hm, hr, h8, hl⟩ := h
  refine ⟨xs, hm, ownsRow_keep hr hk, fun x hx => (h8 x hx).keep (fun k hkk => ?_), hl⟩
  exact hk k (own8_from (h8 x hx) k hkk) ((h8 x hx).lt k hkk)
theorem RowsF.below {w w' : World} {base : Nat} {lv : Value} {L : List (List Int)} (h : RowsF w base lv L) (hb : Below w.heap.size w w') : RowsF w' base lv L := h.keep fun k _ h2 => hb.block k h2
theorem RowsF.foot {w w' : World} {base p : Nat} {v lv : Value} {L : List (List Int)} (h : RowsF w base lv L) (hf : Foot w w' p v) (hp : p < base) (hv : ∀ k, v.ownBlock = some k → k < base) : RowsF w' base lv L :=
  h.keep fun k h1 h2 => hf.block k h2 (by omega) (fun e => by have := hv k e.symm; omega)
def OpP (B p : Nat) (v : Value) (bs : List Int) (w : World) (e : Ending) (w' : World) : Prop := ∃ lv v', Hid (e = .returned lv) ∧ RowsF w' w.heap.size lv (allN bs) ∧ v'.ownBlock = v.ownBlock ∧ DAt w' B p v' (bs.take (totL (allN bs))) (totL (allN bs)) ∧ Foot w w' p v
set_option maxHeartbeats 1000000 in
theorem open_any (B p : Nat) (v : Value) (bs : List Int) (last : Nat) (w : World) (h : DAt w B p v bs last) (hl : bs.length ≤ 1000000000) (hx : ∀ x ∈ bs, 0 ≤ x ∧ x ≤ 255) :
    Calls Try.prog 11 #[.pointer (some ⟨p, 0, none⟩)] w (OpP B p v bs w) := by
  have H := Lib.hid h
  have HX := Lib.hid hx
  obtain ⟨a, c, rfl⟩ := h.own.slice
  have c0 := h.c0
  have HT := Lib.hid (totL_allN bs)
  clear h hx
  go_enter Try.func11, Try.ntmps11
  go_wp2_with fail
  refine (all_any _ bs _ (H.out.bt hl) HX.out hl).mono ?_
  rintro e w1 ⟨lv, xs, he, hm, hr, h8, hb⟩
  subst he
  rw [tot_L, hm]
  obtain ⟨T, hT⟩ : ∃ T, totL (allN bs) = T := ⟨_, rfl⟩
  rw [hT] at HT ⊢
  have HTT := Lib.hid hT
  have HM := Lib.hid hm
  have HR := Lib.hid hr
  have H8 := Lib.hid h8
  have HB := Lib.hid hb
  have H1 := Lib.hid (H.out.below hb)
  clear hr hb hT h8 hm
  go_wp2_with fail
  refine (cut_any B p _ bs last T _ H1.out hl HT.out).mono ?_
  rintro e w2 ⟨he, v2, hv, hd, hf⟩
  subst he
  have hkeep : ∀ k, w.heap.size ≤ k → k < w1.heap.size → w2.heap[k]? = w1.heap[k]? := fun k h1 h2 => hf.block k h2 (fun e => by have := H.out.lt; omega) (fun e => by have := H.out.own.lt k e.symm; omega)
  have hrow : RowsF w1 w.heap.size lv (allN bs) := ⟨xs, HM.out, HR.out, H8.out, fun X q => Nat.le_trans (allF_len _ _ X q) (by omega)⟩
  have hrow := hrow.keep hkeep
  have HRow := Lib.hid hrow
  have HV := Lib.hid hv
  have hd' : DAt w2 B p v2 (bs.take T) T := by
    have e : (bs.take T).length = T := by have := HT.out; simp; omega
    rw [e] at hd; exact hd
  have HD := Lib.hid hd'
  have HF := Lib.hid ((Foot.of_below p (.slice a bs.length c) HB.out).trans hf (fun k hk => .inl hk))
  obtain ⟨al, cl, rfl⟩ := hrow.row.row
  clear hv hd hf hd' hkeep hrow
  go_wp2
  go_ret
  exact ⟨_, v2, rfl, HRow.out, HV.out, by rw [HTT.out]; exact HD.out, HF.out⟩
def CrP (B p : Nat) (v : Value) (ys : List Int) (w : World) (e : Ending) (w' : World) : Prop := Hid (e = .returned (.tuple #[])) ∧ ∃ v', v'.ownBlock = v.ownBlock ∧ DAt w' B p v' ys ys.length ∧ Foot w w' p v
/-- How many of the bytes that don't last are kept. -/
def kpN (keep : Int) (n : Nat) : Nat := min keep.toNat n
set_option maxHeartbeats 400000 in
theorem crash_neg (B p : Nat) (v : Value) (bs : List Int) (last : Nat) (keep : Int) (w : World) (h : DAt w B p v bs last) (hl : bs.length ≤ 1000000000) (hle : last ≤ bs.length) (N : Nat) (hN : bs.length - last = N) (hk : keep < 0) :
    Calls Try.prog 9 #[.pointer (some ⟨p, 0, none⟩), .int .i64 keep] w (CrP B p v (bs.take (last)) w) := by
  have H := Lib.hid h
  have HN : Hid ((bs.length : Int) - last = (N : Int)) := Lib.hid (by omega)
  have hNb : N ≤ 1000000000 := by omega
  have hlb : last ≤ 1000000000 := by omega
  have HK : Hid (last ≤ bs.length) := Lib.hid (by omega)
  have t4 : ¬ 0 < keep := by omega
  have t5 : ¬ 0 ≤ keep := by omega
  clear h hN
  go_enter Try.func9, Try.ntmps9
  go_wp2_with fail
  refine (dirty_any B p v bs last _ H.out hl hle).mono ?_
  rw [HN.out]
  rintro e w1 ⟨he, hb⟩
  subst he
  have H1 := Lib.hid (H.out.below hb)
  have HB := Lib.hid hb
  have d1 := H1.out.c1
  clear hb
  go_wp2_with fail
  refine (cut_any B p v bs last (last) _ H1.out hl HK.out).mono ?_
  rintro e w2 ⟨he, v2, hv, hd, hf⟩
  subst he
  have HV := Lib.hid hv
  have HD := Lib.hid hd
  have HF := Lib.hid ((Foot.of_below p v HB.out).trans hf (fun k hk => .inl hk))
  clear hv hd hf
  go_wp2
  go_end0
  exact ⟨rfl, v2, HV.out, HD.out, HF.out⟩
set_option maxHeartbeats 400000 in
theorem crash_zero (B p : Nat) (v : Value) (bs : List Int) (last : Nat) (w : World) (h : DAt w B p v bs last) (hl : bs.length ≤ 1000000000) (hle : last ≤ bs.length) (N : Nat) (hN : bs.length - last = N)  :
    Calls Try.prog 9 #[.pointer (some ⟨p, 0, none⟩), .int .i64 0] w (CrP B p v (bs.take (last)) w) := by
  have H := Lib.hid h
  have HN : Hid ((bs.length : Int) - last = (N : Int)) := Lib.hid (by omega)
  have hNb : N ≤ 1000000000 := by omega
  have hlb : last ≤ 1000000000 := by omega
  have HK : Hid (last ≤ bs.length) := Lib.hid (by omega)
  clear h hN
  go_enter Try.func9, Try.ntmps9
  go_wp2_with fail
  refine (dirty_any B p v bs last _ H.out hl hle).mono ?_
  rw [HN.out]
  rintro e w1 ⟨he, hb⟩
  subst he
  have H1 := Lib.hid (H.out.below hb)
  have HB := Lib.hid hb
  have d1 := H1.out.c1
  clear hb
  go_wp2_with fail
  refine (cut_any B p v bs last (last) _ H1.out hl HK.out).mono ?_
  rintro e w2 ⟨he, v2, hv, hd, hf⟩
  subst he
  have HV := Lib.hid hv
  have HD := Lib.hid hd
  have HF := Lib.hid ((Foot.of_below p v HB.out).trans hf (fun k hk => .inl hk))
  clear hv hd hf
  go_wp2
  go_end0
  exact ⟨rfl, v2, HV.out, HD.out, HF.out⟩
set_option maxHeartbeats 400000 in
theorem crash_some (B p : Nat) (v : Value) (bs : List Int) (last : Nat) (w : World) (h : DAt w B p v bs last) (hl : bs.length ≤ 1000000000) (hle : last ≤ bs.length) (N K : Nat) (hN : bs.length - last = N) (hk : 0 < K) (hKN : K < N) :
    Calls Try.prog 9 #[.pointer (some ⟨p, 0, none⟩), .int .i64 (K : Int)] w (CrP B p v (bs.take (last + K)) w) := by
  have H := Lib.hid h
  have HN : Hid ((bs.length : Int) - last = (N : Int)) := Lib.hid (by omega)
  have hNb : N ≤ 1000000000 := by omega
  have hlb : last ≤ 1000000000 := by omega
  have HK : Hid (last + K ≤ bs.length) := Lib.hid (by omega)
  have t1 : (0 : Int) < (K : Int) := by omega
  have t2 : (K : Int) < (N : Int) := by omega
  clear h hN
  go_enter Try.func9, Try.ntmps9
  go_wp2_with fail
  refine (dirty_any B p v bs last _ H.out hl hle).mono ?_
  rw [HN.out]
  rintro e w1 ⟨he, hb⟩
  subst he
  have H1 := Lib.hid (H.out.below hb)
  have HB := Lib.hid hb
  have d1 := H1.out.c1
  clear hb
  go_wp2_with fail
  refine (cut_any B p v bs last (last + K) _ H1.out hl HK.out).mono ?_
  rintro e w2 ⟨he, v2, hv, hd, hf⟩
  subst he
  have HV := Lib.hid hv
  have HD := Lib.hid hd
  have HF := Lib.hid ((Foot.of_below p v HB.out).trans hf (fun k hk => .inl hk))
  clear hv hd hf
  go_wp2
  go_end0
  exact ⟨rfl, v2, HV.out, HD.out, HF.out⟩
set_option maxHeartbeats 400000 in
theorem crash_same (B p : Nat) (v : Value) (bs : List Int) (last : Nat) (w : World) (h : DAt w B p v bs last) (hl : bs.length ≤ 1000000000) (hle : last ≤ bs.length) (N : Nat) (hN : bs.length - last = N) (hk : 0 < N) :
    Calls Try.prog 9 #[.pointer (some ⟨p, 0, none⟩), .int .i64 (N : Int)] w (CrP B p v (bs.take (last + N)) w) := by
  have H := Lib.hid h
  have HN : Hid ((bs.length : Int) - last = (N : Int)) := Lib.hid (by omega)
  have hNb : N ≤ 1000000000 := by omega
  have hlb : last ≤ 1000000000 := by omega
  have HK : Hid (last + N ≤ bs.length) := Lib.hid (by omega)
  have t1 : (0 : Int) < (N : Int) := by omega
  clear h hN
  go_enter Try.func9, Try.ntmps9
  go_wp2_with fail
  refine (dirty_any B p v bs last _ H.out hl hle).mono ?_
  rw [HN.out]
  rintro e w1 ⟨he, hb⟩
  subst he
  have H1 := Lib.hid (H.out.below hb)
  have HB := Lib.hid hb
  have d1 := H1.out.c1
  clear hb
  go_wp2_with fail
  refine (cut_any B p v bs last (last + N) _ H1.out hl HK.out).mono ?_
  rintro e w2 ⟨he, v2, hv, hd, hf⟩
  subst he
  have HV := Lib.hid hv
  have HD := Lib.hid hd
  have HF := Lib.hid ((Foot.of_below p v HB.out).trans hf (fun k hk => .inl hk))
  clear hv hd hf
  go_wp2
  go_end0
  exact ⟨rfl, v2, HV.out, HD.out, HF.out⟩
set_option maxHeartbeats 400000 in
theorem crash_all (B p : Nat) (v : Value) (bs : List Int) (last : Nat) (keep : Int) (w : World) (h : DAt w B p v bs last) (hl : bs.length ≤ 1000000000) (hle : last ≤ bs.length) (N : Nat) (hN : bs.length - last = N) (hk : 0 < keep) (hkn : (N : Int) < keep) :
    Calls Try.prog 9 #[.pointer (some ⟨p, 0, none⟩), .int .i64 keep] w (CrP B p v (bs.take (last + N)) w) := by
  have H := Lib.hid h
  have HN : Hid ((bs.length : Int) - last = (N : Int)) := Lib.hid (by omega)
  have hNb : N ≤ 1000000000 := by omega
  have hlb : last ≤ 1000000000 := by omega
  have HK : Hid (last + N ≤ bs.length) := Lib.hid (by omega)
  have t3 : ¬ keep < (N : Int) := by omega
  clear h hN
  go_enter Try.func9, Try.ntmps9
  go_wp2_with fail
  refine (dirty_any B p v bs last _ H.out hl hle).mono ?_
  rw [HN.out]
  rintro e w1 ⟨he, hb⟩
  subst he
  have H1 := Lib.hid (H.out.below hb)
  have HB := Lib.hid hb
  have d1 := H1.out.c1
  clear hb
  go_wp2_with fail
  refine (cut_any B p v bs last (last + N) _ H1.out hl HK.out).mono ?_
  rintro e w2 ⟨he, v2, hv, hd, hf⟩
  subst he
  have HV := Lib.hid hv
  have HD := Lib.hid hd
  have HF := Lib.hid ((Foot.of_below p v HB.out).trans hf (fun k hk => .inl hk))
  clear hv hd hf
  go_wp2
  go_end0
  exact ⟨rfl, v2, HV.out, HD.out, HF.out⟩
theorem crash_any (B p : Nat) (v : Value) (bs : List Int) (last : Nat) (keep : Int) (w : World) (h : DAt w B p v bs last) (hl : bs.length ≤ 1000000000) (hle : last ≤ bs.length) :
    Calls Try.prog 9 #[.pointer (some ⟨p, 0, none⟩), .int .i64 keep] w (CrP B p v (bs.take (last + kpN keep (bs.length - last))) w) := by
  by_cases q1 : 0 < keep
  · obtain ⟨K, rfl⟩ : ∃ K : Nat, keep = (K : Int) := ⟨keep.toNat, by omega⟩
    by_cases q2 : K < bs.length - last
    · have e : kpN (K : Int) (bs.length - last) = K := by unfold kpN; omega
      rw [e]
      exact crash_some B p v bs last w h hl hle _ K rfl (by omega) q2
    · by_cases q3 : K = bs.length - last
      · have e : kpN (K : Int) (bs.length - last) = bs.length - last := by unfold kpN; omega
        rw [e, q3]
        exact crash_same B p v bs last w h hl hle _ rfl (by omega)
      · have e : kpN (K : Int) (bs.length - last) = bs.length - last := by unfold kpN; omega
        rw [e]
        exact crash_all B p v bs last K w h hl hle _ rfl q1 (by omega)
  · have e : kpN keep (bs.length - last) = 0 := by unfold kpN; omega
    rw [e]
    by_cases q2 : keep < 0
    · exact crash_neg B p v bs last keep w h hl hle _ rfl q2
    · obtain rfl : keep = 0 := by omega
      exact crash_zero B p v bs last w h hl hle _ rfl
end Go.Proofs.Ytfobdkhmffphmaa
