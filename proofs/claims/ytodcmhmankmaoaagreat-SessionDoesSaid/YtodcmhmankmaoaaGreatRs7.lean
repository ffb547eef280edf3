/-
 The program's machine and the document's, side by side.
-/
import Derived.Test.YtodcmhmankmaoaaGreatRs2z
import Derived.Test.YtodcmhmankmaoaaGreatRs4
import Derived.Test.YtodcmhmankmaoaaGreatRs6
import Derived.Test.YtodcmhmankmaoaaGreatSesF
namespace Go.Proofs.YtodcmhmankmaoaaGreat
open Go.RowKit Go.Sort Go.MapKept
set_option linter.unusedSimpArgs false
set_option linter.unusedVariables false
set_option maxRecDepth 100000

theorem RM.gr {X w w' : World} {base r b : Nat} {v0 u : Value} {xs : List SG} {m : Mac} (h : RM X w base r v0 u xs m) (hg : w.grownBy w' (some b)) (hne : ∀ p cs T fr, w.heap[p]? = some (.cells cs T fr) → p ≠ b) : RM X w' base r v0 u xs m := by
 have f := Fr.grown hg
 refine ⟨⟨f.bk h.rd.bk (fun e => hne r _ _ _ h.rd.bk (Option.some.inj e)), f.own h.rd.own (fun q hq e => ?_), h.rd.lt⟩, f.own h.own (fun q hq e => ?_), h.mt.fr f (fun k cs fr e q => hne k _ _ _ e (Option.some.inj q))⟩
 ·obtain ⟨_, cs, fr, e1⟩ := h.rd.own.blk q hq
  exact hne q _ _ _ e1 (Option.some.inj e)
 ·obtain ⟨_, cs, fr, e1⟩ := h.own.blk q hq
  exact hne q _ _ _ e1 (Option.some.inj e)
theorem RM.two {X w w' : World} {base r bk sb : Nat} {v0 u : Value} {xs : List SG} {m : Mac} (h : RM X w base r v0 u xs m) (ht : Two w w' bk sb) (hne : ∀ p cs T fr, w.heap[p]? = some (.cells cs T fr) → p ≠ bk) : RM X w' base r v0 u xs m := by
 obtain ⟨w1, h1, h2, h3, h4⟩ := ht.mid
 exact (h.gr h1 hne).gr h2 h4
theorem bk_two {w w' : World} {b bk sb : Nat} {T : TypeId} {cs : List Value} (h : Bk w b T cs) (ht : Two w w' bk sb) (h1 : b ≠ bk) (h2 : b ≠ sb) : Bk w' b T cs := by
 obtain ⟨w1, g1, g2, _, _⟩ := ht.mid
 exact (h.grown g1 (by simpa using h1)).grown g2 (by simpa using h2)
/-- A reply's box is set. -/
theorem RM.box {X w w' : World} {base r b : Nat} {v0 u : Value} {xs : List SG} {m : Mac} {cs : List Value} (h : RM X w base r v0 u xs m) (hb : Bk w b 36 cs) (f : Fr (fun k => k = b) w w') : RM X w' base r v0 u xs m := by
 have ne : ∀ k cs' T fr, w.heap[k]? = some (.cells cs' T fr) → T ≠ 36 → ¬ k = b := fun k cs' T fr e hT q => by
  subst q
  rw [hb] at e
  injection e with e
  injection e with _ e2
  exact hT e2.symm
 refine ⟨⟨f.bk h.rd.bk (ne r _ _ _ h.rd.bk (by decide)), f.own h.rd.own (fun q hq => ?_), h.rd.lt⟩, f.own h.own (fun q hq => ?_), h.mt.fr f (fun k cs fr e => ne k _ _ _ e (by decide))⟩
 ·obtain ⟨_, cs, fr, e1⟩ := h.rd.own.blk q hq
  exact ne q _ _ _ e1 (by decide)
 ·obtain ⟨_, cs, fr, e1⟩ := h.own.blk q hq
  exact ne q _ _ _ e1 (by decide)
/-- A machine stays where blocks behind it turn that hold no names. -/
theorem MacAt.frA {X w w' : World} {g d bk sb K r : Nat} {m : Mac} {S : Nat → Prop} (h : MacAt X g d bk sb K m w) (hml : ML X) (hf : Fr S w w') (hS : ∀ j, S j → r ≤ j) (hX : X.heap.size ≤ r) (hlt : g < r ∧ d < r ∧ bk < r ∧ sb < r) (hrw : r ≤ w.heap.size) (hstr : ∀ k cs fr, w.heap[k]? = some (.cells cs 9 fr) → ¬ S k) : MacAt X g d bk sb K m w' := by
 have hb : Below r w w' := hf.to hrw (fun k hk q => by have := hS k q; omega)
 obtain ⟨D, n, hn, ⟨es, ck, hh, hr⟩, hI⟩ := h.map
 have hbelow := h.lw.below.trans (hb.mono hX)
 refine ⟨(hb.cell (p := ⟨g, 0, none⟩) hlt.1).trans h.c0, (hb.cell (p := ⟨g, 1, none⟩) hlt.1).trans h.c1, ⟨h.lw.dir.low hb hlt.2.1 hlt.2.2.1, hml.below hbelow, hbelow, h.lw.lo, h.lw.right, h.lw.ver⟩, ⟨D, n, hn, ⟨es, ck, (hb.block sb hlt.2.2.2).trans hh, hr⟩, hI.has, fun c q r' hf' => ?_, hI.size, hI.tidy⟩, h.lo, h.ne, h.right⟩
 obtain ⟨x, h1, h2⟩ := hI.val c q r' hf'
 exact ⟨x, h1, ⟨h2.ok, h2.cl, h2.sq, h2.er, h2.vl, h2.vr, hf.own h2.row (fun k hk => by obtain ⟨_, cs, fr, e⟩ := h2.row.blk k hk; exact hstr k cs fr e)⟩⟩
theorem len_appD {l : List E3} (h : RightD l) (op : Int) (q v : ByteArray) (ver : Int) : (appD l op q v ver).2.length ≤ l.length + 1 := by
 rcases app_way l op q v ver with e | ⟨n, ho, e, hn⟩ | e
 ·rw [e]; omega
 ·rw [e]
  have := len_putD h.rise h.keys ho (p := q) v n
  rw [this]
  split <;> omega
 ·rw [e]
  have : (delD l q).length ≤ l.length := List.length_filter_le _ _
  omega
theorem len_appM {m : Mac} (h : RightM m) (t : Cm) (c : Rep) : (appM m t c).2.l.length ≤ m.l.length + 1 ∧ (appM m t c).2.s.length ≤ m.s.length + 1 := by
 have hp : ∀ q r, (putS m.s t.cl q r).length ≤ m.s.length + 1 := fun q r => by rw [len_putS_eq h.rise]; split <;> omega
 rcases app_rep m t c with ⟨r, _, e⟩ | ⟨_, e⟩
 ·rw [e]; exact ⟨Nat.le_succ _, Nat.le_succ _⟩
 ·rw [e]
  unfold doM
  split
  ·exact ⟨by simp, hp _ _⟩
  ·exact ⟨len_appD h.dir _ _ _ _, hp _ _⟩
/-- Side by side: the program's is m', the document's m. -/
structure JS (X : World) (g d bk sb base r K k : Nat) (v0 u : Value) (xs : List SG) (m m' : Mac) (w : World) : Prop where
 mac : MacAt X g d bk sb K m' w
 rm : RM X w base r v0 u xs m
 sm : SmM m'
 ml : ML X
 lt : g < r ∧ d < r ∧ bk < r ∧ sb < r ∧ X.heap.size ≤ r ∧ base ≤ w.heap.size
 ls : m.s.length ≤ 60 + k ∧ m.l.length ≤ 60 + k
theorem JS.on {X w w' : World} {g d bk sb base r K k : Nat} {v0 u : Value} {xs : List SG} {m m' : Mac} (h : JS X g d bk sb base r K k v0 u xs m m' w) (hb : Below w.heap.size w w') : JS X g d bk sb base r K k v0 u xs m m' w' :=
 ⟨h.mac.on hb, h.rm.on hb, h.sm, h.ml, ⟨h.lt.1, h.lt.2.1, h.lt.2.2.1, h.lt.2.2.2.1, h.lt.2.2.2.2.1, Nat.le_trans h.lt.2.2.2.2.2 hb.size⟩, h.ls⟩
theorem JS.below {X w : World} {g d bk sb base r K k : Nat} {v0 u : Value} {xs : List SG} {m m' : Mac} (h : JS X g d bk sb base r K k v0 u xs m m' w) : Below X.heap.size X w := h.mac.lw.below
theorem JS.box {X w w' : World} {g d bk sb base r K k b : Nat} {v0 u : Value} {xs : List SG} {m m' : Mac} {cs : List Value} (h : JS X g d bk sb base r K k v0 u xs m m' w) (hb : Bk w b 36 cs) (hrb : r ≤ b) (f : Fr (fun k => k = b) w w') : JS X g d bk sb base r K k v0 u xs m m' w' := by
 have hl := h.rm.rd.lt
 refine ⟨h.mac.frA h.ml f (r := r) (fun j q => by rw [q]; exact hrb) h.lt.2.2.2.2.1 ⟨h.lt.1, h.lt.2.1, h.lt.2.2.1, h.lt.2.2.2.1⟩ (by have := h.lt.2.2.2.2.2; omega) (fun k cs' fr e q => ?_), h.rm.box hb f, h.sm, h.ml, ⟨h.lt.1, h.lt.2.1, h.lt.2.2.1, h.lt.2.2.2.1, h.lt.2.2.2.2.1, Nat.le_trans h.lt.2.2.2.2.2 f.size⟩, h.ls⟩
 subst q
 rw [hb] at e
 injection e with e
 injection e with _ e2
 exact absurd e2 (by decide)
/-- The program does a command. -/
theorem JS.app {X w w' : World} {g d bk sb base r K k : Nat} {v0 u : Value} {xs : List SG} {m : Mac} (h : JS X g d bk sb base r K k v0 u xs m m w) (t : Cm) (c : Rep) (hc : c.names.length ≤ 100000) (hm : MacAt X g d bk sb (K + 1) (appM m t c).2 w') (ht : Two w w' bk sb) (hk : k ≤ 1000) : JS X g d bk sb base r (K + 1) k v0 u xs m (appM m t c).2 w' := by
 have hsz : w.heap.size ≤ w'.heap.size := by
  obtain ⟨w1, g1, g2, _, _⟩ := ht.mid
  exact Nat.le_trans g1.size g2.size
 exact ⟨hm, h.rm.two ht h.mac.lw.blkNe, h.sm.app (by have := h.ls.2; omega) t c hc, h.ml, ⟨h.lt.1, h.lt.2.1, h.lt.2.2.1, h.lt.2.2.2.1, h.lt.2.2.2.2.1, Nat.le_trans h.lt.2.2.2.2.2 hsz⟩, h.ls⟩
/-- The document does it, too. -/
theorem JS.next {X w w' : World} {g d bk sb base r K k : Nat} {v0 u : Value} {xs : List SG} {m : Mac} {t : Cm} {c : Rep} {e : Ending} (h : JS X g d bk sb base r K k v0 u xs m (appM m t c).2 w) (hRm : RightM m) (hr : RMP (appM m t c) X w base r v0 u e w') : ∃ v' u' xs', JS X g d bk sb base r K (k + 1) v' u' xs' (appM m t c).2 (appM m t c).2 w' := by
 obtain ⟨_, ⟨v', u', xs', hrm, _⟩, hf⟩ := hr
 have hl := h.rm.rd.lt
 have hlen := len_appM hRm t c
 refine ⟨v', u', xs', h.mac.frA h.ml hf (r := r) (fun j q => ?_) h.lt.2.2.2.2.1 ⟨h.lt.1, h.lt.2.1, h.lt.2.2.1, h.lt.2.2.2.1⟩ (by have := h.lt.2.2.2.2.2; omega) (fun k cs' fr e q => ?_), hrm, h.sm, h.ml, ⟨h.lt.1, h.lt.2.1, h.lt.2.2.1, h.lt.2.2.2.1, h.lt.2.2.2.2.1, Nat.le_trans h.lt.2.2.2.2.2 hf.size⟩, ⟨by have := h.ls.1; omega, by have := h.ls.2; omega⟩⟩
 ·rcases q with q | q
  ·omega
  ·have := h.rm.rd.own.from j q; omega
 ·rcases q with q | q
  ·subst q
   rw [h.rm.rd.bk] at e
   injection e with e
   injection e with _ e2
   exact absurd e2 (by decide)
  ·obtain ⟨_, cs9, fr9, e9⟩ := h.rm.rd.own.blk k q
   rw [e9] at e
   injection e with e
   injection e with _ e2
   exact absurd e2 (by decide)
section
variable {ops : Array Oper} {o : Oper} {a : Act} {w : World} {K : Act → World → Prop} {Q : Exit → Act → World → Prop} {E : Prop}
abbrev zRp : List Value := [.int .i64 0, .string { data := #[] }, .int .i64 0, .slice none 0 0]
theorem step_allocRep (hg : o.guard = none) (ho : o.op = .alloc 36) (hK : ∀ p w', Bk w' p 36 zRp → Below w.heap.size w w' → w.heap.size ≤ p → K (a.put o.dst (.pointer (some ⟨p, 0, none⟩))) w') :
  if Region.wanted o (yielded ops a.tmps) = true then Oper.wp Tryz.prog o a w K Q else E := by
 rw [if_pos (by simp [Region.wanted, hg])]
 have hr : (execOp a.eval o).run Tryz.prog w = .ok (.value (.pointer (some ⟨w.heap.size, 0, none⟩))) (w.alloc (.cells zRp.toArray 36)) := by
  unfold execOp
  simp only [ho]
  kernel_rfl
 unfold Oper.wp
 rw [hr]
 exact hK _ _ (Bk.new w _ zRp) ((Below.refl _ _).alloc (Nat.le_refl _) _) (Nat.le_refl _)
theorem step_storeRep (hg : o.guard = none) (x y : Operand) (ho : o.op = .store 36 x y) (p : Nat) (hx : a.eval x = .pointer (some ⟨p, 0, none⟩)) (er : Int) (vl : ByteArray) (vr : Int) (b : Option Addr) (n c : Nat) (hy : a.eval y = .agg #[.int .i64 er, .string vl, .int .i64 vr, .slice b n c])
  (hbx : Bk w p 36 zRp) (hK : ∀ w', Bk w' p 36 [.int .i64 er, .string vl, .int .i64 vr, .slice b n c] → Fr (fun k => k = p) w w' → K (a.put o.dst undef) w') : if Region.wanted o (yielded ops a.tmps) = true then Oper.wp Tryz.prog o a w K Q else E :=
 step_store_rowA hg 36 x y ho p hx #[.int .i64 er, .string vl, .int .i64 vr, .slice b n c] hy #[.int .i64 0, .string { data := #[] }, .int .i64 0, .slice none 0 0] 36 hbx (by kernel_rfl) rfl (by rw [← Array.all_toList]; rfl) (hK _ (heap_setRow_same w p _ _ _ hbx) (fr_setRow w p _))
end
end Go.Proofs.YtodcmhmankmaoaaGreat
