/-
  Graph: the finder, as it lies in memory.
-/
import Derived.Test.YtlckjpjcfalfnaaGz
namespace Go.Proofs.Ytlckjpjcfalfnaa
open Go.RowKit Go.Sort
open Go.WideMaps
set_option linter.unusedSimpArgs false
set_option linter.unusedVariables false
set_option maxRecDepth 100000

/-- Stops on the way, as elements of a row. -/
noncomputable def WK : Knd Try.prog (I3 × Nat) where
  T := 86
  S := 60
  k := 4
  enc := fun s => idE s.1 ++ [.int .i64 s.2]
  z := .agg #[.int .i64 0, .int .i64 0, .int .i64 0, .int .i64 0]
  B := 32
  len := fun _ => rfl
  one := fun x v h => by simp [idE] at h; rcases h with rfl | rfl | rfl | rfl <;> rfl
  und := Try.underlying60
  info := by kernel_rfl
  zc := rfl
  pos := by omega
  small := by omega
  d := ((0, 0, 0), 0)
/-- Groups, by where they lie. -/
noncomputable def PK : Knd Try.prog Nat where
  T := 88
  S := 61
  k := 1
  enc := fun b => [.pointer (some ⟨b, 0, none⟩)]
  z := .pointer none
  B := 8
  len := fun _ => rfl
  one := fun x v h => by simp at h; subst h; rfl
  und := Try.underlying61
  info := by kernel_rfl
  zc := rfl
  pos := by omega
  small := by omega
  d := 0
abbrev encN (n : Nat) : Value := .int .i64 n
abbrev encG (b : Nat) : Value := .pointer (some ⟨b, 0, none⟩)
/-- All blocks but some are as they were. -/
structure Fr (S : Nat → Prop) (w w' : World) : Prop where
  os : w'.os = w.os
  tape : w'.tape = w.tape
  output : w'.output = w.output
  size : w.heap.size ≤ w'.heap.size
  block : ∀ k, k < w.heap.size → ¬ S k → w'.heap[k]? = w.heap[k]?
theorem Fr.refl (S : Nat → Prop) (w : World) : Fr S w w := ⟨rfl, rfl, rfl, Nat.le_refl _, fun _ _ _ => rfl⟩
theorem Fr.trans {S T U : Nat → Prop} {a b c : World} (h : Fr S a b) (k : Fr T b c) (hu : ∀ j, j < a.heap.size → S j ∨ T j → U j) : Fr U a c :=
  ⟨k.os.trans h.os, k.tape.trans h.tape, k.output.trans h.output, Nat.le_trans h.size k.size, fun j hj hn => (k.block j (Nat.lt_of_lt_of_le hj h.size) (fun q => hn (hu j hj (.inr q)))).trans (h.block j hj (fun q => hn (hu j hj (.inl q))))⟩
theorem Fr.grown {w w' : World} {r : Option Nat} (h : w.grownBy w' r) : Fr (fun k => some k = r) w w' := ⟨h.os, h.tape, h.output, h.size, fun k hk hn => h.block k hk hn⟩
theorem Fr.ofBelow {w w' : World} {N : Nat} (h : Below N w w') : Fr (fun k => N ≤ k) w w' := ⟨h.os, h.tape, h.output, h.size, fun k _ hn => h.block k (by omega)⟩
theorem Fr.set (w : World) (a : Addr) (u : Value) : Fr (fun k => k = a.block) w (w.setCell a u) := ⟨rfl, rfl, rfl, Nat.le_of_eq (by simp), fun k _ hn => Below.heap_setCell w a u k (fun e => hn e)⟩
theorem Fr.bk {S : Nat → Prop} {w w' : World} {b : Nat} {T : TypeId} {cs : List Value} (h : Fr S w w') (hb : Bk w b T cs) (hn : ¬ S b) : Bk w' b T cs := (h.block b hb.lt hn).trans hb
theorem Fr.mv {S : Nat → Prop} {w w' : World} {α : Type} {enc : α → Value} {b : Nat} {l : List (I3 × α)} (h : Fr S w w') (hb : MV enc w b l) (hn : ¬ S b) : MV enc w' b l := hb.same (h.block b hb.lt hn)
theorem Fr.own {S : Nat → Prop} {w w' : World} {P : Program} {α : Type} {K : Knd P α} {base : Nat} {v : Value} {l : List α} (h : Fr S w w') (hb : K.Own w base v l) (hn : ∀ k, v.ownBlock = some k → ¬ S k) : K.Own w' base v l := hb.keepB fun k hk => h.block k (hb.blk k hk).1 (hn k hk)
theorem Fr.to {S : Nat → Prop} {w w' : World} {N : Nat} (h : Fr S w w') (hN : N ≤ w.heap.size) (hn : ∀ k, k < N → ¬ S k) : Below N w w' := ⟨h.os, h.tape, h.output, h.size, fun k hk => h.block k (Nat.lt_of_lt_of_le hk hN) (hn k hk)⟩
/-- The finder, as a value. -/
structure Fin where
  met : List (I3 × Nat)
  low : List (I3 × Nat)
  way : List (I3 × Nat)
  opn : List I3
  of : List (I3 × Nat)
  grp : List Nat
/-- The finder lies there, with all that it owns. -/
structure FinAt (w : World) (m bw : Nat) (web : List (I3 × NV)) (L : Fin) (vw vo vg : Value) : Prop where
  bk : Bk w (m + 3) 63 [.map (some bw), .map (some m), .map (some (m + 1)), vw, vo, .map (some (m + 2)), vg]
  lw : bw < m
  web : MV ndV w bw web
  met : MV encN w m L.met
  low : MV encN w (m + 1) L.low
  of : MV encG w (m + 2) L.of
  way : WK.Own w (m + 4) vw L.way
  opn : IK.Own w (m + 4) vo L.opn
  grp : PK.Own w (m + 4) vg L.grp
theorem Fr.fin {S : Nat → Prop} {w w' : World} {m bw : Nat} {web : List (I3 × NV)} {L : Fin} {vw vo vg : Value} (h : Fr S w w') (hf : FinAt w m bw web L vw vo vg) (h1 : ∀ k, S k → m + 4 ≤ k) (h2 : ∀ k, S k → vw.ownBlock ≠ some k ∧ vo.ownBlock ≠ some k ∧ vg.ownBlock ≠ some k) : FinAt w' m bw web L vw vo vg :=
  ⟨h.bk hf.bk (fun q => by have := h1 _ q; omega), hf.lw, h.mv hf.web (fun q => by have := h1 _ q; have := hf.lw; omega), h.mv hf.met (fun q => by have := h1 _ q; omega), h.mv hf.low (fun q => by have := h1 _ q; omega), h.mv hf.of (fun q => by have := h1 _ q; omega), h.own hf.way (fun k e q => (h2 k q).1 e), h.own hf.opn (fun k e q => (h2 k q).2.1 e), h.own hf.grp (fun k e q => (h2 k q).2.2 e)⟩
theorem FinAt.below {w w' : World} {m bw : Nat} {web : List (I3 × NV)} {L : Fin} {vw vo vg : Value} (h : FinAt w m bw web L vw vo vg) (hb : Below w.heap.size w w') : FinAt w' m bw web L vw vo vg :=
  ⟨h.bk.below hb, h.lw, h.web.below hb, h.met.below hb, h.low.below hb, h.of.below hb, h.way.below hb, h.opn.below hb, h.grp.below hb⟩
theorem Fr.mono {S T : Nat → Prop} {w w' : World} (h : Fr S w w') (hu : ∀ j, j < w.heap.size → S j → T j) : Fr T w w' := ⟨h.os, h.tape, h.output, h.size, fun k hk hn => h.block k hk (fun q => hn (hu k hk q))⟩
/-- Rows of other types lie in other blocks. -/
theorem row_far {w : World} {P : Program} {α β : Type} {K : Knd P α} {R : Knd P β} {b1 b2 : Nat} {v u : Value} {l : List α} {k : List β} (h : K.Own w b1 v l) (h2 : R.Own w b2 u k) (hT : K.T ≠ R.T) : ∀ j, v.ownBlock = some j → u.ownBlock ≠ some j := by
  intro j hj hk
  obtain ⟨_, cs, fr, e1⟩ := h.blk j hj
  obtain ⟨_, cs2, fr2, e2⟩ := h2.blk j hk
  rw [e1] at e2
  injection e2 with e2
  injection e2 with _ e3 _
  exact hT e3
theorem own_ge {P : Program} {α : Type} {K : Knd P α} {w : World} {base : Nat} {v : Value} {l : List α} (h : K.Own w base v l) {b : Nat} (hb : b < base) : ∀ k, v.ownBlock = some k → k ≠ b := fun k hk => by have := h.from k hk; omega
theorem FinAt.setMet {w w' : World} {m bw : Nat} {web : List (I3 × NV)} {L : Fin} {vw vo vg : Value} (h : FinAt w m bw web L vw vo vg) (hf : Fr (fun k => k = m) w w') {l : List (I3 × Nat)} (hm : MV encN w' m l) : FinAt w' m bw web { L with met := l } vw vo vg :=
  ⟨hf.bk h.bk (by omega), h.lw, hf.mv h.web (by have := h.lw; omega), hm, hf.mv h.low (by omega), hf.mv h.of (by omega), hf.own h.way (own_ge h.way (by omega)), hf.own h.opn (own_ge h.opn (by omega)), hf.own h.grp (own_ge h.grp (by omega))⟩
theorem FinAt.setLow {w w' : World} {m bw : Nat} {web : List (I3 × NV)} {L : Fin} {vw vo vg : Value} (h : FinAt w m bw web L vw vo vg) (hf : Fr (fun k => k = m + 1) w w') {l : List (I3 × Nat)} (hm : MV encN w' (m + 1) l) : FinAt w' m bw web { L with low := l } vw vo vg :=
  ⟨hf.bk h.bk (by omega), h.lw, hf.mv h.web (by have := h.lw; omega), hf.mv h.met (by omega), hm, hf.mv h.of (by omega), hf.own h.way (own_ge h.way (by omega)), hf.own h.opn (own_ge h.opn (by omega)), hf.own h.grp (own_ge h.grp (by omega))⟩
theorem FinAt.setWay {w w' : World} {m bw : Nat} {web : List (I3 × NV)} {L : Fin} {vw vo vg v : Value} (h : FinAt w m bw web L vw vo vg) (hf : Fr (fun k => vw.ownBlock = some k) w w') {l : List (I3 × Nat)} (ho : WK.Own w' (m + 4) v l) : FinAt (w'.setCell ⟨m + 3, 3, none⟩ v) m bw web { L with way := l } v vo vg := by
  have hlo := h.way.from
  have hs := Fr.set w' ⟨m + 3, 3, none⟩ v
  have hb := (hf.bk h.bk (fun q => by have := hlo _ q; omega)).set 3 v
  have hlw := h.lw
  refine ⟨hb, h.lw, hs.mv (hf.mv h.web (fun q => by have := hlo _ q; omega)) (by simp; omega), hs.mv (hf.mv h.met (fun q => by have := hlo _ q; omega)) (by simp), hs.mv (hf.mv h.low (fun q => by have := hlo _ q; omega)) (by simp), hs.mv (hf.mv h.of (fun q => by have := hlo _ q; omega)) (by simp), ho.setA (by omega) _ _, (hf.own h.opn (fun k e q => row_far h.way h.opn (by decide) k q e)).setA (by omega) _ _, (hf.own h.grp (fun k e q => row_far h.way h.grp (by decide) k q e)).setA (by omega) _ _⟩
theorem FinAt.setOpn {w w' : World} {m bw : Nat} {web : List (I3 × NV)} {L : Fin} {vw vo vg v : Value} (h : FinAt w m bw web L vw vo vg) (hf : Fr (fun k => vo.ownBlock = some k) w w') {l : List I3} (ho : IK.Own w' (m + 4) v l) : FinAt (w'.setCell ⟨m + 3, 4, none⟩ v) m bw web { L with opn := l } vw v vg := by
  have hlo := h.opn.from
  have hs := Fr.set w' ⟨m + 3, 4, none⟩ v
  have hb := (hf.bk h.bk (fun q => by have := hlo _ q; omega)).set 4 v
  have hlw := h.lw
  refine ⟨hb, h.lw, hs.mv (hf.mv h.web (fun q => by have := hlo _ q; omega)) (by simp; omega), hs.mv (hf.mv h.met (fun q => by have := hlo _ q; omega)) (by simp), hs.mv (hf.mv h.low (fun q => by have := hlo _ q; omega)) (by simp), hs.mv (hf.mv h.of (fun q => by have := hlo _ q; omega)) (by simp), (hf.own h.way (fun k e q => row_far h.opn h.way (by decide) k q e)).setA (by omega) _ _, ho.setA (by omega) _ _, (hf.own h.grp (fun k e q => row_far h.opn h.grp (by decide) k q e)).setA (by omega) _ _⟩
section
variable {P : Program} {α : Type} {ops : Array Oper} {o : Oper} {a : Act} {w : World} {K : Act → World → Prop} {Q : Exit → Act → World → Prop} {E : Prop}
theorem step_valueL {P : Program} (hg : o.guard = none) (v : Value) (w' : World) (hr : (execOp a.eval o).run P w = .ok (.value v) w') (hK : K (a.put o.dst v) w') :
    if Region.wanted o (yielded ops a.tmps) = true then Oper.wp P o a w K Q else E := by
  rw [if_pos (by simp [Region.wanted, hg])]
  unfold Oper.wp
  rw [hr]
  exact hK
/-- 'append(l, x)' at a step of a region that draws. -/
theorem Knd.step_app2 (Kd : Knd P α) (hgd : o.guard = none) (s x : Operand) (ho : o.op = .call { callee := .builtin .append, args := #[s, x], argTypes := #[Kd.S, Kd.S] })
    (base : Nat) (v : Value) (l : List α) (hs : a.eval s = v) (hown : Kd.Own w base v l) (g : Nat) (c : Nat) (y : α) (hx : a.eval x = .slice (some ⟨g, 0, none⟩) 1 c) (hks : Kd.Rd w (.slice (some ⟨g, 0, none⟩) 1 c) [y])
    (hl : l.length + 1 ≤ 1000000) (hbase : base ≤ w.heap.size)
    (hK : ∀ v' w', Kd.Own w' base v' (l ++ [y]) → Below base w w' → w.grownBy w' v.ownBlock → Next w v v' → K (a.put o.dst v') w') : if Region.wanted o (yielded ops a.tmps) = true then Oper.wp P o a w K Q else E := by
  obtain ⟨v', w', hr, q1, q2, q3, q4⟩ := Kd.run_app hown _ [y] hks (fun _ _ => trivial) hl hbase o.type
  have hN : Next w v v' := by
    obtain ⟨i0, hi, hz0, hz1, hz2⟩ := info_parts Kd.info
    obtain ⟨a3, c3, e3, hlen3, _, hrd⟩ := hks
    rcases hrd with h0 | ⟨g3, off3, ha3, _, hc3⟩
    · cases h0
    · simp only [Value.slice.injEq] at e3
      obtain ⟨e4, _, _⟩ := e3
      rw [← e4] at ha3
      simp only [Option.some.injEq, Addr.mk.injEq, and_true] at ha3
      obtain ⟨rfl, rfl⟩ := ha3
      have hs2 := Kd.small
      have hB : (l.length + [y].length) * Kd.B ≤ 140737488355328 := by
        have h2 : (l.length + [y].length) * Kd.B ≤ 1000000 * 100000 := Nat.mul_le_mul hl hs2
        omega
      refine append_next (P := P) w Kd.S o.type Kd.T i0 Kd.z base Kd.und hi hz0 v l.length (Kd.row l) (by rw [hz1]; exact hown) (by rw [hz1]; exact Kd.pos) ⟨g, 0, none⟩ [y].length c (Kd.row [y]) (by rw [hz1]; exact Kd.row_len [y]) (fun j u hj => ?_) (Kd.row_one [y]) (by unfold maxLen; simp; omega) (by rw [hz2]; exact hB) v' w' hr
      have := hc3 j u hj
      by_cases h0 : j = 0
      · subst h0; simpa [Addr.add] using this
      · simpa [Addr.add, h0] using this
  refine step_valueL hgd v' w' ?_ (hK v' w' q1 q2 q3 hN)
  unfold execOp
  simp only [ho, resolve, invoke, builtin, Sem.run_bind, Sem.run_pure, Result.andThen_ok, List.map_toArray, List.map_cons, List.map_nil, hs, hx, hr]
end
end Go.Proofs.Ytlckjpjcfalfnaa
