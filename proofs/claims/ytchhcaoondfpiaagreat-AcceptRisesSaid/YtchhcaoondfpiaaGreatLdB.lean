/-
  Package clone: attributes and instances with lists of their own.
-/
import Derived.Test.YtchhcaoondfpiaaGreatLdA
import Derived.Lib.LazyBuf
namespace Go.Proofs.YtchhcaoondfpiaaGreat
open Go.RowKit
set_option linter.unusedSimpArgs false
set_option linter.unusedVariables false
set_option maxRecDepth 100000

section
variable {P : Program} {ops : Array Oper} {rest : List Oper} {o : Oper} {a : Act} {w : World} {Q : Exit → Act → World → Prop}
/-- A whole variable is loaded, also behind a guard. -/
theorem wpList_load_rowG (hw : Region.wanted o (yielded ops a.tmps) = true) (ty : TypeId) (x : Operand) (ho : o.op = .load ty x) (g : Nat) (hx : a.eval x = .pointer (some ⟨g, 0, none⟩)) (t : TypeId) (cs : Array Value) (fr : Nat × Nat) (d : TypeDesc) (hg : w.heap[g]? = some (.cells cs t fr))
    (hu : P.underlying ty = some d) (hd : (match d with | .struct _ | .array _ _ => true | _ => false) = true) (hi : (P.info? ty).map (·.size) = some cs.size)
    (h : wpList P ops Q rest (a.put o.dst (.agg cs)) w) : wpList P ops Q (o :: rest) a w := by
  refine wpList_value hw (.agg cs) w ?_ h
  unfold execOp
  simp only [ho, hx, Instr.loadAt, Instr.sureAddr, Sem.run_bind, Sem.run_pure, Result.andThen_ok, run_loadVar_row w g t ty cs fr d hg hu hd hi]
end
def IclP (l : List I3) (w : World) (e : Ending) (w' : World) : Prop := ∃ v', Hid (e = .returned v') ∧ IK.Own w' w.heap.size v' l ∧ Below w.heap.size w w'
set_option maxHeartbeats 400000 in
theorem iclone_any (v : Value) (ns : List I3) (w : World) (h : IK.Rd w v ns) (hl : ns.length ≤ 100000) : Calls Tryz.prog 79 #[v] w (IclP ns w) := by
  have H := Lib.hid h
  have knil := fun (w : World) (a : Option Addr) (l c : Nat) => run_eql_slice_nil (P := Tryz.prog) w 44 37 a l c Tryz.underlying44
  obtain ⟨a, c, rfl, h1, h2, h3⟩ := h
  cases a with
  | none =>
    have hxs : ns = [] := by
      rcases h3 with h0 | ⟨g, off, ha, _⟩
      · exact h0
      · cases ha
    subst hxs
    obtain rfl := h2 rfl
    clear H h1 h2 h3
    go_enter Tryz.func79, Tryz.ntmps79
    go_wp2
    go_ret
    exact ⟨_, rfl, Knd.Own.nil _ _, Below.refl _ _⟩
  | some ad =>
    clear h1 h2 h3
    obtain ⟨N, hN⟩ : ∃ N, ns.length = N := ⟨_, rfl⟩
    rw [hN] at H hl ⊢
    have HN := Lib.hid hN
    clear hN
    go_enter Tryz.func79, Tryz.ntmps79
    have HO : Hid (IK.Own (w.alloc (.cells #[] 37)) w.heap.size (.slice (some ⟨w.heap.size, 0, none⟩) 0 0) []) := World.ownsRow_lit w #[] 0 (Nat.le_refl _) (by simp) rfl
    have HH := Lib.hid (H.out.below ((Below.refl w.heap.size w).alloc (Nat.le_refl _) (.cells #[] 37)))
    have hz : w.heap.size ≤ (w.alloc (.cells #[] 37)).heap.size := by simp
    go_wp2_with (refine IK.app rfl _ _ rfl w.heap.size _ [] rfl HO.out _ ns rfl HH.out (by simp only [List.length_nil]; rw [HN.out]; omega) hz ?_)
    intro v' w' ho hb _ _
    have HI := Lib.hid ho
    have HB := Lib.hid (((Below.refl w.heap.size w).alloc (Nat.le_refl _) (.cells #[] 37)).trans hb)
    clear ho hb
    go_wp2
    go_ret
    exact ⟨_, rfl, by simpa using HI.out, HB.out⟩
theorem infoAt : (Tryz.prog.info? 46).map (·.size) = some 2 := by kernel_rfl
theorem infoIn : (Tryz.prog.info? 48).map (·.size) = some 15 := by kernel_rfl
/-- An attribute with a list of its own. -/
def AtO (s : Int) (l : List I3) (w : World) (e : Ending) (w' : World) : Prop := ∃ v', Hid (e = .returned (.agg #[.int .i64 s, v'])) ∧ IK.Own w' w.heap.size v' l ∧ Below w.heap.size w w'
set_option maxHeartbeats 1000000 in
theorem cattr_any (s : Int) (v : Value) (l : List I3) (w : World) (h : IK.Rd w v l) (hl : l.length ≤ 100000) : Calls Tryz.prog 54 #[.agg #[.int .i64 s, v]] w (AtO s l w) := by
  obtain ⟨a, c, rfl⟩ := h.slice
  obtain ⟨M, hM⟩ : ∃ M, l.length = M := ⟨_, rfl⟩
  rw [hM] at h ⊢
  have HM := Lib.hid hM
  obtain ⟨X, hX⟩ : ∃ X, (w.alloc (.cells #[.int .i64 s, .slice a M c] 46)).alloc (.cells #[.int .i64 0, .slice none 0 0] 46) = X := ⟨_, rfl⟩
  have hB : Below w.heap.size w X := by rw [← hX]; exact ((Below.refl _ _).alloc (Nat.le_refl _) _).alloc (by simp) _
  have h1 : Bk X w.heap.size 46 [.int .i64 s, .slice a M c] := by rw [← hX]; exact (Bk.new w _ _).old _
  have h2 : Bk X (w.heap.size + 1) 46 [.int .i64 0, .slice none 0 0] := by rw [← hX]; have := Bk.new (w.alloc (.cells #[.int .i64 s, .slice a M c] 46)) 46 [.int .i64 0, .slice none 0 0]; rwa [World.size_alloc] at this
  have hz : X.heap.size = w.heap.size + 2 := by rw [← hX]; simp
  have c0 := h1.cell 0
  have c1 := h1.cell 1
  simp only [List.getElem?_cons_zero, List.getElem?_cons_succ] at c0 c1
  have HS := Lib.hid (iclone_any (.slice a M c) l X (h.below hB) hl)
  have HB := Lib.hid hB
  have H1 := Lib.hid h1
  have H2 := Lib.hid h2
  have HZ := Lib.hid hz
  clear h h1 h2 hB hM hz
  go_enter Tryz.func54, Tryz.ntmps54
  go_wp2_with fail
  refine HS.out.mono ?_
  rintro e w1 ⟨v0, he, ho, hb⟩
  rw [he.out]
  obtain ⟨a1, k1, hv1⟩ := ho.slice
  rw [HM.out] at hv1
  subst hv1
  clear he c0 c1 hX
  have H1b := Lib.hid (H1.out.below hb)
  have H2b := Lib.hid (H2.out.below hb)
  have HO := Lib.hid (ho.base (b2 := w.heap.size + 2) (Nat.le_of_eq HZ.out.symm))
  have HB1 := Lib.hid (below_self HB.out hb)
  have c1 := H1b.out.cell 1
  simp only [List.getElem?_cons_zero, List.getElem?_cons_succ] at c1
  have f1 := H1b.out.fz 1
  have hlt := H1b.out.lt
  have hlt2 := H2b.out.lt
  have H1c := Lib.hid (H1b.out.set 1 (.slice a1 M k1))
  have H2c := Lib.hid (H2b.out.other (b2 := w.heap.size) (by omega) 1 (.slice a1 M k1))
  have HO1 := Lib.hid (HO.out.keepB (w' := w1.setCell ⟨w.heap.size, 1, none⟩ (.slice a1 M k1)) (fun k hk => Below.heap_setCell _ _ _ k (by have := HO.out.from k hk; show k ≠ w.heap.size; omega)))
  have HB2 := Lib.hid (HB1.out.setCell (show w.heap.size ≤ (⟨w.heap.size, 1, none⟩ : Addr).block from Nat.le_refl _) (.slice a1 M k1))
  have H1d : Hid ((w1.setCell ⟨w.heap.size, 1, none⟩ (.slice a1 M k1)).heap[w.heap.size]? = some (.cells #[.int .i64 s, .slice a1 M k1] 46 (0, 0))) := H1c.out
  have H2d : Hid ((w1.setCell ⟨w.heap.size, 1, none⟩ (.slice a1 M k1)).heap[w.heap.size + 1]? = some (.cells #[.int .i64 0, .slice none 0 0] 46 (0, 0))) := H2c.out
  have HLv : Hid ((loadVar 46 ⟨w.heap.size + 1, 0, none⟩).run Tryz.prog ((w1.setCell ⟨w.heap.size, 1, none⟩ (.slice a1 M k1)).setRow (w.heap.size + 1) #[.int .i64 s, .slice a1 M k1]) = .ok (.agg #[.int .i64 s, .slice a1 M k1]) ((w1.setCell ⟨w.heap.size, 1, none⟩ (.slice a1 M k1)).setRow (w.heap.size + 1) #[.int .i64 s, .slice a1 M k1])) := Lib.hid (run_loadVar_row _ _ _ _ _ (0, 0) _ (heap_setRow_same _ _ _ _ _ H2d.out) Tryz.underlying46 rfl infoAt)
  have HONE : Hid ((#[.int .i64 s, .slice a1 M k1] : Array Value).all (·.oneCell') = true) := Lib.hid (by rw [← Array.all_toList]; rfl)
  clear ho hb HO H1b H2b HB1 H1c H2c
  go_wp2_with (first
    | refine wpList_load_rowG rfl _ _ rfl w.heap.size rfl 46 _ (0, 0) _ H1d.out Tryz.underlying46 rfl infoAt ?_
    | refine wpList_store_row rfl 46 _ _ rfl (w.heap.size + 1) rfl #[.int .i64 s, .slice a1 M k1] rfl _ 46 H2d.out infoAt rfl HONE.out ?_
    | fail)
  have hlv := HLv.out
  refine bodyPost_ret (v := .agg #[.int .i64 s, .slice a1 M k1]) (by simp [results, Tryz.results54, asAddr, Act.put, hlv]) rfl ⟨.slice a1 M k1, rfl, ?_, below_setRow HB2.out (by omega) _⟩
  refine (HO1.out.keepB (fun k hk => ?_)).base (by omega)
  have := HO1.out.from k hk
  simp only [World.setRow]
  rw [Array.getElem?_modify, if_neg (by omega)]
/-- An instance with a list of its own. -/
def InO (x : Ist) (w : World) (e : Ending) (w' : World) : Prop := ∃ v', Hid (e = .returned (.agg (inE x v').toArray)) ∧ IK.Own w' w.heap.size v' x.at'.2 ∧ Below w.heap.size w w'
set_option maxHeartbeats 4000000 in
theorem cinst_any (x : Ist) (v : Value) (w : World) (h : IK.Rd w v x.at'.2) (hl : x.at'.2.length ≤ 100000) : Calls Tryz.prog 49 #[.agg (inE x v).toArray] w (InO x w) := by
  obtain ⟨a, c, rfl⟩ := h.slice
  obtain ⟨n0, ⟨n1, n2⟩, ⟨n3, n4⟩, ⟨n5, n6, n7, n8, n9, n10, n11, n12⟩, s, l⟩ := x
  simp only at h hl
  obtain ⟨M, hM⟩ : ∃ M, l.length = M := ⟨_, rfl⟩
  simp only [inE, hM] at h ⊢
  have HM := Lib.hid hM
  obtain ⟨X, hX⟩ : ∃ X, (w.alloc (.cells #[.int .i64 n0, .int .i64 n1, .int .i64 n2, .int .i64 n3, .int .i64 n4, .int .i64 n5, .int .i64 n6, .int .i64 n7, .string n8, .string n9, .int .i64 n10, .int .i64 n11, .int .i64 n12, .int .i64 s, .slice a M c] 48)).alloc (.cells #[.int .i64 0, .int .i64 0, .int .i64 0, .int .i64 0, .int .i64 0, .int .i64 0, .int .i64 0, .int .i64 0, .string ⟨#[]⟩, .string ⟨#[]⟩, .int .i64 0, .int .i64 0, .int .i64 0, .int .i64 0, .slice none 0 0] 48) = X := ⟨_, rfl⟩
  have hB : Below w.heap.size w X := by rw [← hX]; exact ((Below.refl _ _).alloc (Nat.le_refl _) _).alloc (by simp) _
  have h1 : Bk X w.heap.size 48 [.int .i64 n0, .int .i64 n1, .int .i64 n2, .int .i64 n3, .int .i64 n4, .int .i64 n5, .int .i64 n6, .int .i64 n7, .string n8, .string n9, .int .i64 n10, .int .i64 n11, .int .i64 n12, .int .i64 s, .slice a M c] := by rw [← hX]; exact (Bk.new w _ _).old _
  have h2 : Bk X (w.heap.size + 1) 48 [.int .i64 0, .int .i64 0, .int .i64 0, .int .i64 0, .int .i64 0, .int .i64 0, .int .i64 0, .int .i64 0, .string ⟨#[]⟩, .string ⟨#[]⟩, .int .i64 0, .int .i64 0, .int .i64 0, .int .i64 0, .slice none 0 0] := by rw [← hX]; have := Bk.new (w.alloc (.cells #[.int .i64 n0, .int .i64 n1, .int .i64 n2, .int .i64 n3, .int .i64 n4, .int .i64 n5, .int .i64 n6, .int .i64 n7, .string n8, .string n9, .int .i64 n10, .int .i64 n11, .int .i64 n12, .int .i64 s, .slice a M c] 48)) 48 [.int .i64 0, .int .i64 0, .int .i64 0, .int .i64 0, .int .i64 0, .int .i64 0, .int .i64 0, .int .i64 0, .string ⟨#[]⟩, .string ⟨#[]⟩, .int .i64 0, .int .i64 0, .int .i64 0, .int .i64 0, .slice none 0 0]; rwa [World.size_alloc] at this
  have hz : X.heap.size = w.heap.size + 2 := by rw [← hX]; simp
  have c0 := h1.cell 13
  have c1 := h1.cell 14
  simp only [List.getElem?_cons_zero, List.getElem?_cons_succ] at c0 c1
  have HS := Lib.hid (cattr_any s (.slice a M c) l X (h.below hB) hl)
  have HB := Lib.hid hB
  have H1 := Lib.hid h1
  have H2 := Lib.hid h2
  have HZ := Lib.hid hz
  clear h h1 h2 hB hM hz
  go_enter Tryz.func49, Tryz.ntmps49
  go_wp2_with fail
  refine HS.out.mono ?_
  rintro e w1 ⟨v0, he, ho, hb⟩
  rw [he.out]
  obtain ⟨a1, k1, hv1⟩ := ho.slice
  rw [HM.out] at hv1
  subst hv1
  clear he c0 c1 hX
  have H1b := Lib.hid (H1.out.below hb)
  have H2b := Lib.hid (H2.out.below hb)
  have HO := Lib.hid (ho.base (b2 := w.heap.size + 2) (Nat.le_of_eq HZ.out.symm))
  have HB1 := Lib.hid (below_self HB.out hb)
  have c0 := H1b.out.cell 13
  have c1 := H1b.out.cell 14
  simp only [List.getElem?_cons_zero, List.getElem?_cons_succ] at c0 c1
  have f0 := H1b.out.fz 13
  have f1 := H1b.out.fz 14
  have hlt := H1b.out.lt
  have hlt2 := H2b.out.lt
  obtain ⟨W2, hW2⟩ : ∃ W2, (w1.setCell ⟨w.heap.size, 13, none⟩ (.int .i64 s)).setCell ⟨w.heap.size, 14, none⟩ (.slice a1 M k1) = W2 := ⟨_, rfl⟩
  have H1d : Hid (((w1.setCell ⟨w.heap.size, 13, none⟩ (.int .i64 s)).setCell ⟨w.heap.size, 14, none⟩ (.slice a1 M k1)).heap[w.heap.size]? = some (.cells #[.int .i64 n0, .int .i64 n1, .int .i64 n2, .int .i64 n3, .int .i64 n4, .int .i64 n5, .int .i64 n6, .int .i64 n7, .string n8, .string n9, .int .i64 n10, .int .i64 n11, .int .i64 n12, .int .i64 s, .slice a1 M k1] 48 (0, 0))) := Lib.hid ((H1b.out.set 13 _).set 14 _)
  have H2d : Hid (((w1.setCell ⟨w.heap.size, 13, none⟩ (.int .i64 s)).setCell ⟨w.heap.size, 14, none⟩ (.slice a1 M k1)).heap[w.heap.size + 1]? = some (.cells #[.int .i64 0, .int .i64 0, .int .i64 0, .int .i64 0, .int .i64 0, .int .i64 0, .int .i64 0, .int .i64 0, .string ⟨#[]⟩, .string ⟨#[]⟩, .int .i64 0, .int .i64 0, .int .i64 0, .int .i64 0, .slice none 0 0] 48 (0, 0))) := Lib.hid ((H2b.out.other (b2 := w.heap.size) (by omega) 13 _).other (b2 := w.heap.size) (by omega) 14 _)
  have HO1 := Lib.hid ((HO.out.keepB (w' := w1.setCell ⟨w.heap.size, 13, none⟩ (.int .i64 s)) (fun k hk => Below.heap_setCell _ _ _ k (by have := HO.out.from k hk; show k ≠ w.heap.size; omega))).keepB (w' := (w1.setCell ⟨w.heap.size, 13, none⟩ (.int .i64 s)).setCell ⟨w.heap.size, 14, none⟩ (.slice a1 M k1)) (fun k hk => Below.heap_setCell _ _ _ k (by have := HO.out.from k hk; show k ≠ w.heap.size; omega)))
  have HB2 := Lib.hid ((HB1.out.setCell (show w.heap.size ≤ (⟨w.heap.size, 13, none⟩ : Addr).block from Nat.le_refl _) (.int .i64 s)).setCell (show w.heap.size ≤ (⟨w.heap.size, 14, none⟩ : Addr).block from Nat.le_refl _) (.slice a1 M k1))
  have HLv : Hid ((loadVar 48 ⟨w.heap.size + 1, 0, none⟩).run Tryz.prog (((w1.setCell ⟨w.heap.size, 13, none⟩ (.int .i64 s)).setCell ⟨w.heap.size, 14, none⟩ (.slice a1 M k1)).setRow (w.heap.size + 1) #[.int .i64 n0, .int .i64 n1, .int .i64 n2, .int .i64 n3, .int .i64 n4, .int .i64 n5, .int .i64 n6, .int .i64 n7, .string n8, .string n9, .int .i64 n10, .int .i64 n11, .int .i64 n12, .int .i64 s, .slice a1 M k1]) = .ok (.agg #[.int .i64 n0, .int .i64 n1, .int .i64 n2, .int .i64 n3, .int .i64 n4, .int .i64 n5, .int .i64 n6, .int .i64 n7, .string n8, .string n9, .int .i64 n10, .int .i64 n11, .int .i64 n12, .int .i64 s, .slice a1 M k1]) (((w1.setCell ⟨w.heap.size, 13, none⟩ (.int .i64 s)).setCell ⟨w.heap.size, 14, none⟩ (.slice a1 M k1)).setRow (w.heap.size + 1) #[.int .i64 n0, .int .i64 n1, .int .i64 n2, .int .i64 n3, .int .i64 n4, .int .i64 n5, .int .i64 n6, .int .i64 n7, .string n8, .string n9, .int .i64 n10, .int .i64 n11, .int .i64 n12, .int .i64 s, .slice a1 M k1])) := Lib.hid (run_loadVar_row _ _ _ _ _ (0, 0) _ (heap_setRow_same _ _ _ _ _ H2d.out) Tryz.underlying48 rfl infoIn)
  have HONE : Hid ((#[.int .i64 n0, .int .i64 n1, .int .i64 n2, .int .i64 n3, .int .i64 n4, .int .i64 n5, .int .i64 n6, .int .i64 n7, .string n8, .string n9, .int .i64 n10, .int .i64 n11, .int .i64 n12, .int .i64 s, .slice a1 M k1] : Array Value).all (·.oneCell') = true) := Lib.hid (by rw [← Array.all_toList]; rfl)
  clear ho hb HO H1b H2b HB1 hW2
  go_wp2_with (first
    | refine wpList_load_rowG rfl _ _ rfl w.heap.size rfl 48 _ (0, 0) _ H1d.out Tryz.underlying48 rfl infoIn ?_
    | refine wpList_store_row rfl 48 _ _ rfl (w.heap.size + 1) rfl #[.int .i64 n0, .int .i64 n1, .int .i64 n2, .int .i64 n3, .int .i64 n4, .int .i64 n5, .int .i64 n6, .int .i64 n7, .string n8, .string n9, .int .i64 n10, .int .i64 n11, .int .i64 n12, .int .i64 s, .slice a1 M k1] rfl _ 48 H2d.out infoIn rfl HONE.out ?_
    | fail)
  have hlv := HLv.out
  refine bodyPost_ret (v := .agg #[.int .i64 n0, .int .i64 n1, .int .i64 n2, .int .i64 n3, .int .i64 n4, .int .i64 n5, .int .i64 n6, .int .i64 n7, .string n8, .string n9, .int .i64 n10, .int .i64 n11, .int .i64 n12, .int .i64 s, .slice a1 M k1]) (by simp [results, Tryz.results49, asAddr, Act.put, hlv]) rfl ⟨.slice a1 M k1, rfl, ?_, below_setRow HB2.out (by omega) _⟩
  refine (HO1.out.keepB (fun k hk => ?_)).base (by omega)
  have := HO1.out.from k hk
  simp only [World.setRow]
  rw [Array.getElem?_modify, if_neg (by omega)]
end Go.Proofs.YtchhcaoondfpiaaGreat
