/-
 What the document reads: an instance.
-/
import Derived.Test.YtnancdbkmompdaaGreatRY
import Derived.Test.YtnancdbkmompdaaGreatRZ
import Derived.Test.YtnancdbkmompdaaGreatRQV
namespace Go.Proofs.YtnancdbkmompdaaGreat
open Go.RowKit
set_option linter.unusedSimpArgs false
set_option linter.unusedVariables false
set_option maxRecDepth 100000
set_option maxHeartbeats 40000000
section
variable {P : Program} {α : Type} {ops : Array Oper} {o : Oper} {a : Act} {w : World} {K : Act → World → Prop} {Q : Exit → Act → World → Prop} {E : Prop}
theorem step_valueR {P : Program} (hg : o.guard = none) (v : Value) (w' : World) (hr : (execOp a.eval o).run P w = .ok (.value v) w') (hK : K (a.put o.dst v) w') :
  if Region.wanted o (yielded ops a.tmps) = true then Oper.wp P o a w K Q else E := by
 rw [if_pos (by simp [Region.wanted, hg])]
 unfold Oper.wp
 rw [hr]
 exact hK
/-- 'append(l, x)' at a step of a region that draws. -/
theorem Knd.step_appR (Kd : Knd P α) (hgd : o.guard = none) (s x : Operand) (ho : o.op = .call { callee := .builtin .append, args := #[s, x], argTypes := #[Kd.S, Kd.S] })
  (base : Nat) (v : Value) (l : List α) (hs : a.eval s = v) (hown : Kd.Own w base v l) (vy : Value) (y : α) (hx : a.eval x = vy) (hks : Kd.Rd w vy [y])
  (hl : l.length + 1 ≤ 1000000) (hbase : base ≤ w.heap.size)
  (hK : ∀ v' w', Kd.Own w' base v' (l ++ [y]) → Below base w w' → w.grownBy w' v.ownBlock → K (a.put o.dst v') w') : if Region.wanted o (yielded ops a.tmps) = true then Oper.wp P o a w K Q else E := by
 obtain ⟨v', w', hr, q1, q2, q3, q4⟩ := Kd.run_app hown vy [y] hks (fun _ _ => trivial) hl hbase o.type
 refine step_valueR hgd v' w' ?_ (hK v' w' q1 q2 q3)
 unfold execOp
 simp only [ho, resolve, invoke, builtin, Sem.run_bind, Sem.run_pure, Result.andThen_ok, List.map_toArray, List.map_cons, List.map_nil, hs, hx, hr]
end
section
variable {w0 w w1 : World} {r : Nat} {s : ByteArray} {g : Nat} {T : TypeId} {zs cs : List Value} {st st' : RSt}
theorem IS.low (h : IS w0 w r s g T zs cs st) (hb : Below (g + 1 + 1 + 1) w w1) : IS w0 w1 r s g T zs cs st := by
 have := h.hr; have := h.hg
 obtain ⟨a, h1, h2, h3⟩ := h.rd
 exact ⟨⟨a, h1, h2, h3.on hb (by omega)⟩, h.bi.on hb (by omega), h.bz.on hb (by omega), h.bx.on hb (by omega), ⟨hb.os.trans h.fo.os, hb.tape.trans h.fo.tape, hb.output.trans h.fo.output, Nat.le_trans h.fo.size hb.size, fun k hk hne => (hb.block k (by omega)).trans (h.fo.block k hk hne)⟩, h.hr, h.hg⟩
theorem IS.sz (h : IS w0 w r s g T zs cs st) : g + 1 + 1 + 1 ≤ w.heap.size := h.bx.lt
theorem IS.ce (h : IS w0 w r s g T zs cs st) : w.cell? ⟨r, 2, none⟩ = some (.int .i64 st.2) := by obtain ⟨a, h1, h2, h3⟩ := h.rd; exact h3.cell 2
end
theorem OwnR.fo {k : Nat} {K : Knd Tryz.prog (Cls k)} {α : Type} {R : Rz α} {r : Nat} {w w' : World} {N : Nat} {v : Value} {l : List α} (h : OwnR K R w N v l) (hF : Fo r w w') (hr : r < N) : OwnR K R w' N v l :=
 h.keep fun j hj hq => hF.block j (by rcases hq with ⟨cs, fr, q⟩ | ⟨cs, fr, q⟩ <;> exact (Array.getElem?_eq_some_iff.1 q).1) (by omega)
theorem OwnR.under {k : Nat} {K : Knd Tryz.prog (Cls k)} {α : Type} {R : Rz α} {w w' : World} {N : Nat} {v : Value} {l : List α} (h : OwnR K R w N v l) (hb : Below w.heap.size w w') : OwnR K R w' N v l :=
 h.keep fun j hj hq => hb.block j (by rcases hq with ⟨cs, fr, q⟩ | ⟨cs, fr, q⟩ <;> exact (Array.getElem?_eq_some_iff.1 q).1)
theorem OwnR.setA {k : Nat} {K : Knd Tryz.prog (Cls k)} {α : Type} {R : Rz α} {w : World} {N : Nat} {v : Value} {l : List α} (h : OwnR K R w N v l) {b : Nat} (hb : b < N) (j : Nat) (u : Value) : OwnR K R (w.setCell ⟨b, j, none⟩ u) N v l :=
 h.keep fun i hi _ => Below.heap_setCell _ _ _ _ (by show i ≠ b; omega)
/-- An own row of a type other than the one that grew. -/
theorem OwnR.grown {k m : Nat} {K : Knd Tryz.prog (Cls k)} {M : Knd Tryz.prog (Cls m)} {α : Type} {R : Rz α} {w w' : World} {N B : Nat} {v u : Value} {l : List α} {ks : List (Cls m)} (h : OwnR K R w N v l) (hu : M.Own w B u ks) (hg : w.grownBy w' u.ownBlock) (hT : M.T ≠ K.T) (hS : M.T ≠ 9) : OwnR K R w' N v l :=
 h.keep fun j hj hq => hg.block j (by rcases hq with ⟨cs, fr, q⟩ | ⟨cs, fr, q⟩ <;> exact (Array.getElem?_eq_some_iff.1 q).1) (fun e => by
  obtain ⟨_, cs2, fr2, e2⟩ := hu.blk j e.symm
  rcases hq with ⟨cs, fr, q⟩ | ⟨cs, fr, q⟩
  ·rw [e2] at q
   simp only [Option.some.injEq, Obj.cells.injEq] at q
   exact hS q.2.1
  ·rw [e2] at q
   simp only [Option.some.injEq, Obj.cells.injEq] at q
   exact hT q.2.1)
theorem k_wrap {k N : Nat} (h : k < N) (hN : N ≤ 1024) : wrap64 ((k : Int) + 1) = (k : Int) + 1 := by unfold wrap64; omega
theorem k_meas {k N : Nat} (h : k < N) : N - (intOf (Value.int .i64 ((k : Int) + 1))).toNat < N - (intOf (Value.int .i64 (k : Int))).toNat := by
 show N - ((k : Int) + 1).toNat < N - ((k : Int)).toNat
 omega
theorem gList_stay {α : Type} (A : Cod α) (n : Nat) (s : RSt) (k : Nat) (hk : k ≤ n) (h : (gList A.rd k s).2.2 ≠ 0) : (gList A.rd n s).2 = (gList A.rd k s).2 := by
 obtain ⟨d, rfl⟩ : ∃ d, n = k + d := ⟨n - k, by omega⟩
 induction d with
 | zero => rfl
 | succ d ih =>
  have := ih (by omega)
  rw [← Nat.add_assoc, gList_snoc]
  simp only
  rw [this]
  exact A.err _ _ h
/-- Elements of rows. -/
def mkI (x : Id3) : Cls 3 := ⟨idE x, rfl, by intro v hv; simp only [idE, List.mem_cons, List.not_mem_nil, or_false] at hv; rcases hv with rfl | rfl | rfl <;> rfl⟩
def mkN (x : Int) : Cls 1 := ⟨[.int .i64 x], rfl, by intro v hv; simp only [List.mem_cons, List.not_mem_nil, or_false] at hv; subst hv; rfl⟩
def mkT (x : ByteArray) : Cls 1 := ⟨[.string x], rfl, by intro v hv; simp only [List.mem_cons, List.not_mem_nil, or_false] at hv; subst hv; rfl⟩
def mkE (x : Ent) : Cls 3 := ⟨enE x, rfl, by intro v hv; simp only [enE, List.mem_cons, List.not_mem_nil, or_false] at hv; rcases hv with rfl | rfl | rfl <;> rfl⟩
theorem KI.box (x0 x1 x2 : Int) (c : Nat) (w : World) : KI.Rd (w.alloc (.cells #[.int .i64 x0, .int .i64 x1, .int .i64 x2] 49)) (.slice (some ⟨w.heap.size, 0, none⟩) 1 c) [mkI (x0, x1, x2)] := KI.rd_boxAt (mkI (x0, x1, x2)) 49 c w w.heap.size rfl
theorem KN.box (x : Int) (c : Nat) (w : World) : KN.Rd (w.alloc (.cells #[.int .i64 x] 3)) (.slice (some ⟨w.heap.size, 0, none⟩) 1 c) [mkN x] := KN.rd_boxAt (mkN x) 3 c w w.heap.size rfl
theorem KT.box (x : ByteArray) (c : Nat) (w : World) : KT.Rd (w.alloc (.cells #[.string x] 9)) (.slice (some ⟨w.heap.size, 0, none⟩) 1 c) [mkT x] := KT.rd_boxAt (mkT x) 9 c w w.heap.size rfl
theorem KE.box (x0 x1 : ByteArray) (x2 : Int) (c : Nat) (w : World) : KE.Rd (w.alloc (.cells #[.string x0, .string x1, .int .i64 x2] 71)) (.slice (some ⟨w.heap.size, 0, none⟩) 1 c) [mkE (x0, x1, x2)] := KE.rd_boxAt (mkE (x0, x1, x2)) 71 c w w.heap.size rfl
/-- An instance that was read. -/
def InP (st' : RSt) (x : Ins) (r : Nat) (s : ByteArray) (w : World) (e : Ending) (w' : World) : Prop := ∃ (y : Ins) (a : Option Addr) (m c : Nat), Hid (e = .returned (.agg #[.int .i64 y.1, .int .i64 y.2.1.1, .int .i64 y.2.1.2, .int .i64 y.2.2.1.1, .int .i64 y.2.2.1.2, .int .i64 y.2.2.2.1.1, .int .i64 y.2.2.2.1.2.1, .int .i64 y.2.2.2.1.2.2.1, .string y.2.2.2.1.2.2.2.1, .string y.2.2.2.1.2.2.2.2.1, .int .i64 y.2.2.2.1.2.2.2.2.2.1, .int .i64 y.2.2.2.1.2.2.2.2.2.2.1, .int .i64 y.2.2.2.1.2.2.2.2.2.2.2, .int .i64 y.2.2.2.2.1, .slice a m c])) ∧ OwnR KI (plainR idE) w' w.heap.size (.slice a m c) y.2.2.2.2.2 ∧ (st'.2 = 0 → y = x) ∧ RD w' r s st' ∧ Fo r w w'
theorem iinst (r : Nat) (s : ByteArray) (st : RSt) (w : World) (h : RD w r s st) (hs : s.size ≤ 1000000000) :
  Calls Tryz.prog 50 #[.agg #[.pointer (some ⟨r, 0, none⟩)]] w (InP (inC.rd st).2 (inC.rd st).1 r s w) := by
 obtain ⟨n0, s0, g0⟩ : ∃ b s, gNum st = (b, s) := ⟨_, _, rfl⟩
 obtain ⟨⟨n1, n2⟩, s1, g1⟩ : ∃ b s, balC.rd s0 = (b, s) := ⟨_, _, rfl⟩
 obtain ⟨⟨n3, n4⟩, s2, g2⟩ : ∃ b s, balC.rd s1 = (b, s) := ⟨_, _, rfl⟩
 obtain ⟨n5, s3, g3⟩ : ∃ b s, gNum s2 = (b, s) := ⟨_, _, rfl⟩
 obtain ⟨n6, s4, g4⟩ : ∃ b s, gNum s3 = (b, s) := ⟨_, _, rfl⟩
 obtain ⟨n7, s5, g5⟩ : ∃ b s, gNum s4 = (b, s) := ⟨_, _, rfl⟩
 obtain ⟨n8, s6, g6⟩ : ∃ b s, gTxt s5 = (b, s) := ⟨_, _, rfl⟩
 obtain ⟨n9, s7, g7⟩ : ∃ b s, gTxt s6 = (b, s) := ⟨_, _, rfl⟩
 obtain ⟨n10, s8, g8⟩ : ∃ b s, gNum s7 = (b, s) := ⟨_, _, rfl⟩
 obtain ⟨n11, s9, g9⟩ : ∃ b s, gNum s8 = (b, s) := ⟨_, _, rfl⟩
 obtain ⟨n12, s10, g10⟩ : ∃ b s, gNum s9 = (b, s) := ⟨_, _, rfl⟩
 obtain ⟨n13, s11, g11⟩ : ∃ b s, gNum s10 = (b, s) := ⟨_, _, rfl⟩
 obtain ⟨N, s12, g12⟩ : ∃ b s, gCnt s11 = (b, s) := ⟨_, _, rfl⟩
 obtain ⟨L, s', hL⟩ : ∃ b s, gList idC.rd N s12 = (b, s) := ⟨_, _, rfl⟩
 have hE : inC.rd st = ((n0, (n1, n2), (n3, n4), (n5, n6, n7, n8, n9, n10, n11, n12), n13, L), s') := by
  simp only [inC, cmC, atC, pairC_rd, numC_rd, txtC_rd, listC_rd, g0, g1, g2, g3, g4, g5, g6, g7, g8, g9, g10, g11, g12, hL]
 rw [hE]
 have HLL := Hd hL
 have hN := gCnt_le s11
 rw [g12] at hN
 have HN : Hid (N ≤ 1024) := Hd hN
 have G0 := Hd g0
 have G1 := Hd g1
 have G2 := Hd g2
 have G3 := Hd g3
 have G4 := Hd g4
 have G5 := Hd g5
 have G6 := Hd g6
 have G7 := Hd g7
 have G8 := Hd g8
 have G9 := Hd g9
 have G10 := Hd g10
 have G11 := Hd g11
 have G12 := Hd g12
 have HI := Hd (IS.start h 59 [.int .i64 0, .int .i64 0, .int .i64 0, .int .i64 0, .int .i64 0, .int .i64 0, .int .i64 0, .int .i64 0, .string ⟨#[]⟩, .string ⟨#[]⟩, .int .i64 0, .int .i64 0, .int .i64 0, .int .i64 0, .slice none 0 0])
 have c0 := HI.out.ci
 clear h hE hL hN g0 g1 g2 g3 g4 g5 g6 g7 g8 g9 g10 g11 g12
 go_enter Tryz.func50, Tryz.ntmps50
 go_wp2_with fail
 refine (inumE r s _ _ _ _ HI.out.rd hs G0.out).mono ?_
 rintro e w1 ⟨he, h1, h2⟩
 rw [he.out]
 have HJ := Hd (HI.out.call h1 h2)
 have y0 := HJ.out.bx.cell 0
 have z0 := HJ.out.bx.fz 0
 simp only [List.set_cons_zero, List.set_cons_succ, List.getElem?_cons_zero, List.getElem?_cons_succ] at y0
 obtain ⟨v1, hv⟩ : ∃ q, (w1.setCell ⟨w.heap.size + 1 + 1, 0, none⟩ (.int .i64 n0)) = q := ⟨_, rfl⟩
 have HK := Hd (HJ.out.set 0 (.int .i64 n0))
 simp only [List.set_cons_zero, List.set_cons_succ] at HK
 rw [hv] at HK
 clear HI HJ c0 he h1 h2
 have c0 := HK.out.ci
 have HI := HK
 clear HK
 go_wp2_with fail
 clear hv y0 z0
 refine (ibal r s _ _ n1 n2 _ HI.out.rd hs G1.out).mono ?_
 rintro e w2 ⟨he, h1, h2⟩
 rw [he.out]
 have HJ := Hd (HI.out.call h1 h2)
 have y0 := HJ.out.bx.cell 1
 have z0 := HJ.out.bx.fz 1
 have y1 := HJ.out.bx.cell 2
 have z1 := HJ.out.bx.fz 2
 simp only [List.set_cons_zero, List.set_cons_succ, List.getElem?_cons_zero, List.getElem?_cons_succ] at y0 y1
 obtain ⟨v2, hv⟩ : ∃ q, ((w2.setCell ⟨w.heap.size + 1 + 1, 1, none⟩ (.int .i64 n1)).setCell ⟨w.heap.size + 1 + 1, 2, none⟩ (.int .i64 n2)) = q := ⟨_, rfl⟩
 have HK := Hd ((HJ.out.set 1 (.int .i64 n1)).set 2 (.int .i64 n2))
 simp only [List.set_cons_zero, List.set_cons_succ] at HK
 rw [hv] at HK
 clear HI HJ c0 he h1 h2
 have c0 := HK.out.ci
 have HI := HK
 clear HK
 go_wp2_with fail
 clear hv y0 z0 y1 z1
 refine (ibal r s _ _ n3 n4 _ HI.out.rd hs G2.out).mono ?_
 rintro e w3 ⟨he, h1, h2⟩
 rw [he.out]
 have HJ := Hd (HI.out.call h1 h2)
 have y0 := HJ.out.bx.cell 3
 have z0 := HJ.out.bx.fz 3
 have y1 := HJ.out.bx.cell 4
 have z1 := HJ.out.bx.fz 4
 simp only [List.set_cons_zero, List.set_cons_succ, List.getElem?_cons_zero, List.getElem?_cons_succ] at y0 y1
 obtain ⟨v3, hv⟩ : ∃ q, ((w3.setCell ⟨w.heap.size + 1 + 1, 3, none⟩ (.int .i64 n3)).setCell ⟨w.heap.size + 1 + 1, 4, none⟩ (.int .i64 n4)) = q := ⟨_, rfl⟩
 have HK := Hd ((HJ.out.set 3 (.int .i64 n3)).set 4 (.int .i64 n4))
 simp only [List.set_cons_zero, List.set_cons_succ] at HK
 rw [hv] at HK
 clear HI HJ c0 he h1 h2
 have c0 := HK.out.ci
 have HI := HK
 clear HK
 go_wp2_with fail
 clear hv y0 z0 y1 z1
 refine (inumE r s _ _ _ _ HI.out.rd hs G3.out).mono ?_
 rintro e w4 ⟨he, h1, h2⟩
 rw [he.out]
 have HJ := Hd (HI.out.call h1 h2)
 have y0 := HJ.out.bx.cell 5
 have z0 := HJ.out.bx.fz 5
 simp only [List.set_cons_zero, List.set_cons_succ, List.getElem?_cons_zero, List.getElem?_cons_succ] at y0
 obtain ⟨v4, hv⟩ : ∃ q, (w4.setCell ⟨w.heap.size + 1 + 1, 5, none⟩ (.int .i64 n5)) = q := ⟨_, rfl⟩
 have HK := Hd (HJ.out.set 5 (.int .i64 n5))
 simp only [List.set_cons_zero, List.set_cons_succ] at HK
 rw [hv] at HK
 clear HI HJ c0 he h1 h2
 have c0 := HK.out.ci
 have HI := HK
 clear HK
 go_wp2_with fail
 clear hv y0 z0
 refine (inumE r s _ _ _ _ HI.out.rd hs G4.out).mono ?_
 rintro e w5 ⟨he, h1, h2⟩
 rw [he.out]
 have HJ := Hd (HI.out.call h1 h2)
 have y0 := HJ.out.bx.cell 6
 have z0 := HJ.out.bx.fz 6
 simp only [List.set_cons_zero, List.set_cons_succ, List.getElem?_cons_zero, List.getElem?_cons_succ] at y0
 obtain ⟨v5, hv⟩ : ∃ q, (w5.setCell ⟨w.heap.size + 1 + 1, 6, none⟩ (.int .i64 n6)) = q := ⟨_, rfl⟩
 have HK := Hd (HJ.out.set 6 (.int .i64 n6))
 simp only [List.set_cons_zero, List.set_cons_succ] at HK
 rw [hv] at HK
 clear HI HJ c0 he h1 h2
 have c0 := HK.out.ci
 have HI := HK
 clear HK
 go_wp2_with fail
 clear hv y0 z0
 refine (inumE r s _ _ _ _ HI.out.rd hs G5.out).mono ?_
 rintro e w6 ⟨he, h1, h2⟩
 rw [he.out]
 have HJ := Hd (HI.out.call h1 h2)
 have y0 := HJ.out.bx.cell 7
 have z0 := HJ.out.bx.fz 7
 simp only [List.set_cons_zero, List.set_cons_succ, List.getElem?_cons_zero, List.getElem?_cons_succ] at y0
 obtain ⟨v6, hv⟩ : ∃ q, (w6.setCell ⟨w.heap.size + 1 + 1, 7, none⟩ (.int .i64 n7)) = q := ⟨_, rfl⟩
 have HK := Hd (HJ.out.set 7 (.int .i64 n7))
 simp only [List.set_cons_zero, List.set_cons_succ] at HK
 rw [hv] at HK
 clear HI HJ c0 he h1 h2
 have c0 := HK.out.ci
 have HI := HK
 clear HK
 go_wp2_with fail
 clear hv y0 z0
 refine (itextE r s _ _ _ _ HI.out.rd hs G6.out).mono ?_
 rintro e w7 ⟨he, h1, h2⟩
 rw [he.out]
 have HJ := Hd (HI.out.call h1 h2)
 have y0 := HJ.out.bx.cell 8
 have z0 := HJ.out.bx.fz 8
 simp only [List.set_cons_zero, List.set_cons_succ, List.getElem?_cons_zero, List.getElem?_cons_succ] at y0
 obtain ⟨v7, hv⟩ : ∃ q, (w7.setCell ⟨w.heap.size + 1 + 1, 8, none⟩ (.string n8)) = q := ⟨_, rfl⟩
 have HK := Hd (HJ.out.set 8 (.string n8))
 simp only [List.set_cons_zero, List.set_cons_succ] at HK
 rw [hv] at HK
 clear HI HJ c0 he h1 h2
 have c0 := HK.out.ci
 have HI := HK
 clear HK
 go_wp2_with fail
 clear hv y0 z0
 refine (itextE r s _ _ _ _ HI.out.rd hs G7.out).mono ?_
 rintro e w8 ⟨he, h1, h2⟩
 rw [he.out]
 have HJ := Hd (HI.out.call h1 h2)
 have y0 := HJ.out.bx.cell 9
 have z0 := HJ.out.bx.fz 9
 simp only [List.set_cons_zero, List.set_cons_succ, List.getElem?_cons_zero, List.getElem?_cons_succ] at y0
 obtain ⟨v8, hv⟩ : ∃ q, (w8.setCell ⟨w.heap.size + 1 + 1, 9, none⟩ (.string n9)) = q := ⟨_, rfl⟩
 have HK := Hd (HJ.out.set 9 (.string n9))
 simp only [List.set_cons_zero, List.set_cons_succ] at HK
 rw [hv] at HK
 clear HI HJ c0 he h1 h2
 have c0 := HK.out.ci
 have HI := HK
 clear HK
 go_wp2_with fail
 clear hv y0 z0
 refine (inumE r s _ _ _ _ HI.out.rd hs G8.out).mono ?_
 rintro e w9 ⟨he, h1, h2⟩
 rw [he.out]
 have HJ := Hd (HI.out.call h1 h2)
 have y0 := HJ.out.bx.cell 10
 have z0 := HJ.out.bx.fz 10
 simp only [List.set_cons_zero, List.set_cons_succ, List.getElem?_cons_zero, List.getElem?_cons_succ] at y0
 obtain ⟨v9, hv⟩ : ∃ q, (w9.setCell ⟨w.heap.size + 1 + 1, 10, none⟩ (.int .i64 n10)) = q := ⟨_, rfl⟩
 have HK := Hd (HJ.out.set 10 (.int .i64 n10))
 simp only [List.set_cons_zero, List.set_cons_succ] at HK
 rw [hv] at HK
 clear HI HJ c0 he h1 h2
 have c0 := HK.out.ci
 have HI := HK
 clear HK
 go_wp2_with fail
 clear hv y0 z0
 refine (inumE r s _ _ _ _ HI.out.rd hs G9.out).mono ?_
 rintro e w10 ⟨he, h1, h2⟩
 rw [he.out]
 have HJ := Hd (HI.out.call h1 h2)
 have y0 := HJ.out.bx.cell 11
 have z0 := HJ.out.bx.fz 11
 simp only [List.set_cons_zero, List.set_cons_succ, List.getElem?_cons_zero, List.getElem?_cons_succ] at y0
 obtain ⟨v10, hv⟩ : ∃ q, (w10.setCell ⟨w.heap.size + 1 + 1, 11, none⟩ (.int .i64 n11)) = q := ⟨_, rfl⟩
 have HK := Hd (HJ.out.set 11 (.int .i64 n11))
 simp only [List.set_cons_zero, List.set_cons_succ] at HK
 rw [hv] at HK
 clear HI HJ c0 he h1 h2
 have c0 := HK.out.ci
 have HI := HK
 clear HK
 go_wp2_with fail
 clear hv y0 z0
 refine (inumE r s _ _ _ _ HI.out.rd hs G10.out).mono ?_
 rintro e w11 ⟨he, h1, h2⟩
 rw [he.out]
 have HJ := Hd (HI.out.call h1 h2)
 have y0 := HJ.out.bx.cell 12
 have z0 := HJ.out.bx.fz 12
 simp only [List.set_cons_zero, List.set_cons_succ, List.getElem?_cons_zero, List.getElem?_cons_succ] at y0
 obtain ⟨v11, hv⟩ : ∃ q, (w11.setCell ⟨w.heap.size + 1 + 1, 12, none⟩ (.int .i64 n12)) = q := ⟨_, rfl⟩
 have HK := Hd (HJ.out.set 12 (.int .i64 n12))
 simp only [List.set_cons_zero, List.set_cons_succ] at HK
 rw [hv] at HK
 clear HI HJ c0 he h1 h2
 have c0 := HK.out.ci
 have HI := HK
 clear HK
 go_wp2_with fail
 clear hv y0 z0
 refine (inumE r s _ _ _ _ HI.out.rd hs G11.out).mono ?_
 rintro e w12 ⟨he, h1, h2⟩
 rw [he.out]
 have HJ := Hd (HI.out.call h1 h2)
 have y0 := HJ.out.bx.cell 13
 have z0 := HJ.out.bx.fz 13
 simp only [List.set_cons_zero, List.set_cons_succ, List.getElem?_cons_zero, List.getElem?_cons_succ] at y0
 obtain ⟨v12, hv⟩ : ∃ q, (w12.setCell ⟨w.heap.size + 1 + 1, 13, none⟩ (.int .i64 n13)) = q := ⟨_, rfl⟩
 have HK := Hd (HJ.out.set 13 (.int .i64 n13))
 simp only [List.set_cons_zero, List.set_cons_succ] at HK
 rw [hv] at HK
 clear HI HJ c0 he h1 h2
 have c0 := HK.out.ci
 have HI := HK
 clear HK
 go_wp2_with fail
 clear hv y0 z0
 refine (ilistE r s _ _ _ _ HI.out.rd hs G12.out).mono ?_
 rintro e w13 ⟨he, h1, h2⟩
 rw [he.out]
 have HJ := Hd (HI.out.call h1 h2)
 have HK := HJ
 clear HI HJ c0 he h1 h2
 have c0 := HK.out.ci
 have HI := HK
 clear HK
 go_upto_block 0 with fail
 skip
 go_cut [5] from 54 to 75 (fun _ wx => ∃ (a : Option Addr) (m c : Nat) (l : List _), Hid (IS w wx r s w.heap.size 59 [.int .i64 0, .int .i64 0, .int .i64 0, .int .i64 0, .int .i64 0, .int .i64 0, .int .i64 0, .int .i64 0, .string ⟨#[]⟩, .string ⟨#[]⟩, .int .i64 0, .int .i64 0, .int .i64 0, .int .i64 0, .slice none 0 0] [.int .i64 n0, .int .i64 n1, .int .i64 n2, .int .i64 n3, .int .i64 n4, .int .i64 n5, .int .i64 n6, .int .i64 n7, .string n8, .string n9, .int .i64 n10, .int .i64 n11, .int .i64 n12, .int .i64 n13, .slice a m c] s') ∧ Hid (OwnR KI (plainR idE) wx (w.heap.size + 1 + 1 + 1) (.slice a m c) l) ∧ Hid (s'.2 = 0 → l = L))
 case first =>
  go_wp2_with fail
  go_loopw [5] (fun i wr => ∃ (k : Nat) (a : Option Addr) (cp : Nat) (lk : List _) (xk : List Int) (er : Int), k ≤ N ∧ i = .int .i64 k ∧ Hid (gList idC.rd k s12 = (lk, (xk, er))) ∧ Hid (IS w wr r s w.heap.size 59 [.int .i64 0, .int .i64 0, .int .i64 0, .int .i64 0, .int .i64 0, .int .i64 0, .int .i64 0, .int .i64 0, .string ⟨#[]⟩, .string ⟨#[]⟩, .int .i64 0, .int .i64 0, .int .i64 0, .int .i64 0, .slice none 0 0] [.int .i64 n0, .int .i64 n1, .int .i64 n2, .int .i64 n3, .int .i64 n4, .int .i64 n5, .int .i64 n6, .int .i64 n7, .string n8, .string n9, .int .i64 n10, .int .i64 n11, .int .i64 n12, .int .i64 n13, .slice a k cp] (xk, er)) ∧ Hid (OwnR KI (plainR idE) wr (w.heap.size + 1 + 1 + 1) (.slice a k cp) lk)) (fun i _ => N - (intOf i).toNat)
  case atStart => exact ⟨0, none, 0, [], s12.1, s12.2, Nat.zero_le _, rfl, Hd rfl, HI, Hd (OwnR.nil (Knd.Own.nil _ _))⟩
  case round =>
   clear HI c0
   obtain ⟨k, a, cp, lk, xk, er, hk, rfl, HG, HI, HO⟩ := hrel
   have c0 := HI.out.ci
   have ce := HI.out.ce
   simp only at ce
   by_cases hlt : k < N
   ·have g1 : (k : Int) < (N : Int) := by omega
    have g2 : decide ((k : Int) < (N : Int)) = true := decide_eq_true g1
    have g3 : decide (k < N) = true := decide_eq_true hlt
    by_cases q : er = 0
    ·subst q
     obtain ⟨⟨x0, x1, x2⟩, s2, hx⟩ : ∃ b s, idC.rd (xk, 0) = (b, s) := ⟨_, _, rfl⟩
     have HX := Hd hx
     have HG2 : Hid (gList idC.rd (k + 1) s12 = (lk ++ [(x0, x1, x2)], s2)) := Hd (by rw [gList_snoc, HG.out]; simp only; rw [hx])
     have HId := Hd (HI.out.under (Below.refl _ _).drew)
     have hcd := HId.out.ci
     have hfd := HId.out.bx.cell 14
     simp only [gB] at hfd
     have HOd := Hd (HO.out.under (Below.refl _ _).drew)
     obtain ⟨rk, o1, o2, o3⟩ := HOd.out
     have hrk : rk.length = k := by
      obtain ⟨_, _, e⟩ := o1.slice
      simp only [Value.slice.injEq] at e
      exact e.2.1.symm
     have HRK := Hd hrk
     have HO1 := Hd o1
     have HO23 := Hd (And.intro o2 o3)
     have HLt := Hd hlt
     have m5 := k_wrap HLt.out HN.out
     clear hx hrk o1 o2 o3 hlt hk
     go_upto_region 18 with fail
     refine wp_region_held_drew (S := (fun w' => w'.cell? ⟨w.heap.size, 0, none⟩ = some (.pointer (some ⟨r, 0, none⟩)))) (by kernel_rfl) ?_ (fun hHeld => ?_)
     ·(first | exact hc7 | exact hc6 | exact hca | exact hc5 | exact hcd | exact c0)
     refine tkA 0 (v := ?_) ?_ ?_
     rotate_left
     ·(intro w hSw; (try dsimp only at hSw); go_simp; try rfl)
     try simp only [Act.put, gA]
     refine tkA 1 (v := ?_) ?_ ?_
     rotate_left
     ·(intro w hSw; (try dsimp only at hSw); go_simp; try rfl)
     try simp only [Act.put, gA]
     refine tkA 3 (v := ?_) ?_ ?_
     rotate_left
     ·(intro w hSw; (try dsimp only at hSw); go_simp; try rfl)
     try simp only [Act.put, gA]
     refine wpAnyH_ready (rs := [2, 4]) (by kernel_rfl) (by simp) ?_
     refine (AllReadyH.cons rfl (fun K hK => ?_) (AllReadyH.cons rfl (fun K hK => ?_) AllReadyH.nil))
     ·
      go_simp
      refine hK.out _ _ ?_ (fun hHeld => ?_)
      ·(first | exact hc7 | exact hc6 | exact hca | exact hc5 | exact hcd | exact c0)
      clear hK K
      try simp only [Act.put, gA]
      refine wpAnyH_ready (rs := [4]) (by kernel_rfl) (by simp) ?_
      refine (AllReadyH.cons rfl (fun K hK => ?_) AllReadyH.nil)
      go_simp
      (refine (iid r s (xk, 0) s2 x0 x1 x2 _ HId.out.rd hs HX.out).mono ?_; rintro e w5 ⟨he, h1, h2⟩; rw [he.out]; have HI5 := Hd (HId.out.call h1 h2); have HO5 := Hd (HOd.out.fo h2 (by have := HI5.out.hr; omega)); have HOw5 := Hd (HO1.out.keepB (fun j hj => h2.block j (HO1.out.blk j hj).1 (by have := HO1.out.from j hj; have := HI5.out.hr; omega))); have hc5 := HI5.out.ci; have hf5 := HI5.out.bx.cell 14; simp only [gB] at hf5; have HIa := Hd (HI5.out.under ((Below.refl _ _).alloc (Nat.le_refl _) (.cells #[.int .i64 x0, .int .i64 x1, .int .i64 x2] 49))); have hca := HIa.out.ci; have hfa := HIa.out.bx.cell 14; simp only [gB] at hfa; clear he h1 h2)
      refine hK.out _ _ ?_ (fun hHeld => ?_)
      ·(first | exact hc7 | exact hc6 | exact hca | exact hc5 | exact hcd | exact c0)
      clear hK K
      try simp only [Act.put, gA]
      refine wpAnyH_ready (rs := [5]) (by kernel_rfl) (by simp) ?_
      refine (AllReadyH.cons rfl (fun K hK => ?_) AllReadyH.nil)
      go_simp
      refine hK.out _ _ ?_ (fun hHeld => ?_)
      ·(first | exact hc7 | exact hc6 | exact hca | exact hc5 | exact hcd | exact c0)
      clear hK K
      try simp only [Act.put, gA]
      refine wpAnyH_ready (rs := [6]) (by kernel_rfl) (by simp) ?_
      refine (AllReadyH.cons rfl (fun K hK => ?_) AllReadyH.nil)
      refine KI.step_appR rfl _ _ rfl ((w.heap.size + 1 + 1 + 1)) (.slice a k cp) rk rfl (HOw5.out.below ((Below.refl _ _).alloc (Nat.le_refl _) _)) _ (mkI (x0, x1, x2)) rfl (KI.box x0 x1 x2 1 w5) (by have := HRK.out; have := HLt.out; have := HN.out; omega) (by have := HIa.out.sz; omega) ?_
      intro v6 w6 ho6 hb6 hg6
      obtain ⟨a6, c6, rfl⟩ : ∃ a6 c6, v6 = .slice a6 (k + 1) c6 := by
       obtain ⟨a6, c6, e6⟩ := ho6.slice
       exact ⟨a6, c6, by rw [e6]; simp [HRK.out]⟩
      have HI6 := Hd (HIa.out.low (hb6.mono (by omega)))
      have HO6 : Hid (OwnR KI (plainR idE) w6 ((w.heap.size + 1 + 1 + 1)) (.slice a6 (k + 1) c6) (lk ++ [(x0, x1, x2)])) := Hd (OwnR.more (w := w6) (v := .slice a k cp) ho6 HO23.out.1 (fun j p q => HO23.out.2 j p q) rfl)
      have hc6 := HI6.out.ci
      have hf6 := HI6.out.bx.cell 14
      have hz6 := HI6.out.bx.fz 14
      simp only [gB] at hf6
      have HI7 := Hd (HI6.out.set 14 (.slice a6 (k + 1) c6))
      simp only [List.set_cons_zero, List.set_cons_succ] at HI7
      have hc7 := HI7.out.ci
      have HO7 := Hd (HO6.out.setA (b := w.heap.size + 1 + 1) (by omega) 14 (.slice a6 (k + 1) c6))
      clear ho6 hb6 hg6
      refine hK.out _ _ ?_ (fun hHeld => ?_)
      ·(first | exact hc7 | exact hc6 | exact hca | exact hc5 | exact hcd | exact c0)
      clear hK K
      try simp only [Act.put, gA]
      refine tkA 7 (v := ?_) ?_ ?_
      rotate_left
      ·(intro w hSw; (try dsimp only at hSw); go_simp; try rfl)
      try simp only [Act.put, gA]
      refine tkA 8 (v := ?_) ?_ ?_
      rotate_left
      ·(intro w hSw; (try dsimp only at hSw); go_simp; try rfl)
      try simp only [Act.put, gA]
      refine wpAnyH_ready (rs := [9]) (by kernel_rfl) (by simp) ?_
      refine (AllReadyH.cons rfl (fun K hK => ?_) AllReadyH.nil)
      go_simp
      refine hK.out _ _ ?_ (fun hHeld => ?_)
      ·(first | exact hc7 | exact hc6 | exact hca | exact hc5 | exact hcd | exact c0)
      clear hK K
      try simp only [Act.put, gA]
      refine wpAnyH_done (by kernel_rfl) ?_ _
      clear hHeld
      go_wp2_with fail
      go_roundw
      case rel => exact ⟨k + 1, a6, c6, lk ++ [(x0, x1, x2)], s2.1, s2.2, by have := HLt.out; omega, (by first | rfl | (rw [m5]; rfl)), HG2, HI7, HO7⟩
      case measure => (try rw [m5]); exact k_meas HLt.out
     ·
      go_simp
      (refine (iid r s (xk, 0) s2 x0 x1 x2 _ HId.out.rd hs HX.out).mono ?_; rintro e w5 ⟨he, h1, h2⟩; rw [he.out]; have HI5 := Hd (HId.out.call h1 h2); have HO5 := Hd (HOd.out.fo h2 (by have := HI5.out.hr; omega)); have HOw5 := Hd (HO1.out.keepB (fun j hj => h2.block j (HO1.out.blk j hj).1 (by have := HO1.out.from j hj; have := HI5.out.hr; omega))); have hc5 := HI5.out.ci; have hf5 := HI5.out.bx.cell 14; simp only [gB] at hf5; have HIa := Hd (HI5.out.under ((Below.refl _ _).alloc (Nat.le_refl _) (.cells #[.int .i64 x0, .int .i64 x1, .int .i64 x2] 49))); have hca := HIa.out.ci; have hfa := HIa.out.bx.cell 14; simp only [gB] at hfa; clear he h1 h2)
      refine hK.out _ _ ?_ (fun hHeld => ?_)
      ·(first | exact hc7 | exact hc6 | exact hca | exact hc5 | exact hcd | exact c0)
      clear hK K
      try simp only [Act.put, gA]
      refine wpAnyH_ready (rs := [2, 5]) (by kernel_rfl) (by simp) ?_
      refine (AllReadyH.cons rfl (fun K hK => ?_) (AllReadyH.cons rfl (fun K hK => ?_) AllReadyH.nil))
      ·
       go_simp
       refine hK.out _ _ ?_ (fun hHeld => ?_)
       ·(first | exact hc7 | exact hc6 | exact hca | exact hc5 | exact hcd | exact c0)
       clear hK K
       try simp only [Act.put, gA]
       refine wpAnyH_ready (rs := [5]) (by kernel_rfl) (by simp) ?_
       refine (AllReadyH.cons rfl (fun K hK => ?_) AllReadyH.nil)
       go_simp
       refine hK.out _ _ ?_ (fun hHeld => ?_)
       ·(first | exact hc7 | exact hc6 | exact hca | exact hc5 | exact hcd | exact c0)
       clear hK K
       try simp only [Act.put, gA]
       refine wpAnyH_ready (rs := [6]) (by kernel_rfl) (by simp) ?_
       refine (AllReadyH.cons rfl (fun K hK => ?_) AllReadyH.nil)
       refine KI.step_appR rfl _ _ rfl ((w.heap.size + 1 + 1 + 1)) (.slice a k cp) rk rfl (HOw5.out.below ((Below.refl _ _).alloc (Nat.le_refl _) _)) _ (mkI (x0, x1, x2)) rfl (KI.box x0 x1 x2 1 w5) (by have := HRK.out; have := HLt.out; have := HN.out; omega) (by have := HIa.out.sz; omega) ?_
       intro v6 w6 ho6 hb6 hg6
       obtain ⟨a6, c6, rfl⟩ : ∃ a6 c6, v6 = .slice a6 (k + 1) c6 := by
        obtain ⟨a6, c6, e6⟩ := ho6.slice
        exact ⟨a6, c6, by rw [e6]; simp [HRK.out]⟩
       have HI6 := Hd (HIa.out.low (hb6.mono (by omega)))
       have HO6 : Hid (OwnR KI (plainR idE) w6 ((w.heap.size + 1 + 1 + 1)) (.slice a6 (k + 1) c6) (lk ++ [(x0, x1, x2)])) := Hd (OwnR.more (w := w6) (v := .slice a k cp) ho6 HO23.out.1 (fun j p q => HO23.out.2 j p q) rfl)
       have hc6 := HI6.out.ci
       have hf6 := HI6.out.bx.cell 14
       have hz6 := HI6.out.bx.fz 14
       simp only [gB] at hf6
       have HI7 := Hd (HI6.out.set 14 (.slice a6 (k + 1) c6))
       simp only [List.set_cons_zero, List.set_cons_succ] at HI7
       have hc7 := HI7.out.ci
       have HO7 := Hd (HO6.out.setA (b := w.heap.size + 1 + 1) (by omega) 14 (.slice a6 (k + 1) c6))
       clear ho6 hb6 hg6
       refine hK.out _ _ ?_ (fun hHeld => ?_)
       ·(first | exact hc7 | exact hc6 | exact hca | exact hc5 | exact hcd | exact c0)
       clear hK K
       try simp only [Act.put, gA]
       refine tkA 7 (v := ?_) ?_ ?_
       rotate_left
       ·(intro w hSw; (try dsimp only at hSw); go_simp; try rfl)
       try simp only [Act.put, gA]
       refine tkA 8 (v := ?_) ?_ ?_
       rotate_left
       ·(intro w hSw; (try dsimp only at hSw); go_simp; try rfl)
       try simp only [Act.put, gA]
       refine wpAnyH_ready (rs := [9]) (by kernel_rfl) (by simp) ?_
       refine (AllReadyH.cons rfl (fun K hK => ?_) AllReadyH.nil)
       go_simp
       refine hK.out _ _ ?_ (fun hHeld => ?_)
       ·(first | exact hc7 | exact hc6 | exact hca | exact hc5 | exact hcd | exact c0)
       clear hK K
       try simp only [Act.put, gA]
       refine wpAnyH_done (by kernel_rfl) ?_ _
       clear hHeld
       go_wp2_with fail
       go_roundw
       case rel => exact ⟨k + 1, a6, c6, lk ++ [(x0, x1, x2)], s2.1, s2.2, by have := HLt.out; omega, (by first | rfl | (rw [m5]; rfl)), HG2, HI7, HO7⟩
       case measure => (try rw [m5]); exact k_meas HLt.out
      ·
       go_simp
       refine hK.out _ _ ?_ (fun hHeld => ?_)
       ·(first | exact hc7 | exact hc6 | exact hca | exact hc5 | exact hcd | exact c0)
       clear hK K
       try simp only [Act.put, gA]
       refine wpAnyH_ready (rs := [2]) (by kernel_rfl) (by simp) ?_
       refine (AllReadyH.cons rfl (fun K hK => ?_) AllReadyH.nil)
       go_simp
       refine hK.out _ _ ?_ (fun hHeld => ?_)
       ·(first | exact hc7 | exact hc6 | exact hca | exact hc5 | exact hcd | exact c0)
       clear hK K
       try simp only [Act.put, gA]
       refine wpAnyH_ready (rs := [6]) (by kernel_rfl) (by simp) ?_
       refine (AllReadyH.cons rfl (fun K hK => ?_) AllReadyH.nil)
       refine KI.step_appR rfl _ _ rfl ((w.heap.size + 1 + 1 + 1)) (.slice a k cp) rk rfl (HOw5.out.below ((Below.refl _ _).alloc (Nat.le_refl _) _)) _ (mkI (x0, x1, x2)) rfl (KI.box x0 x1 x2 1 w5) (by have := HRK.out; have := HLt.out; have := HN.out; omega) (by have := HIa.out.sz; omega) ?_
       intro v6 w6 ho6 hb6 hg6
       obtain ⟨a6, c6, rfl⟩ : ∃ a6 c6, v6 = .slice a6 (k + 1) c6 := by
        obtain ⟨a6, c6, e6⟩ := ho6.slice
        exact ⟨a6, c6, by rw [e6]; simp [HRK.out]⟩
       have HI6 := Hd (HIa.out.low (hb6.mono (by omega)))
       have HO6 : Hid (OwnR KI (plainR idE) w6 ((w.heap.size + 1 + 1 + 1)) (.slice a6 (k + 1) c6) (lk ++ [(x0, x1, x2)])) := Hd (OwnR.more (w := w6) (v := .slice a k cp) ho6 HO23.out.1 (fun j p q => HO23.out.2 j p q) rfl)
       have hc6 := HI6.out.ci
       have hf6 := HI6.out.bx.cell 14
       have hz6 := HI6.out.bx.fz 14
       simp only [gB] at hf6
       have HI7 := Hd (HI6.out.set 14 (.slice a6 (k + 1) c6))
       simp only [List.set_cons_zero, List.set_cons_succ] at HI7
       have hc7 := HI7.out.ci
       have HO7 := Hd (HO6.out.setA (b := w.heap.size + 1 + 1) (by omega) 14 (.slice a6 (k + 1) c6))
       clear ho6 hb6 hg6
       refine hK.out _ _ ?_ (fun hHeld => ?_)
       ·(first | exact hc7 | exact hc6 | exact hca | exact hc5 | exact hcd | exact c0)
       clear hK K
       try simp only [Act.put, gA]
       refine tkA 7 (v := ?_) ?_ ?_
       rotate_left
       ·(intro w hSw; (try dsimp only at hSw); go_simp; try rfl)
       try simp only [Act.put, gA]
       refine tkA 8 (v := ?_) ?_ ?_
       rotate_left
       ·(intro w hSw; (try dsimp only at hSw); go_simp; try rfl)
       try simp only [Act.put, gA]
       refine wpAnyH_ready (rs := [9]) (by kernel_rfl) (by simp) ?_
       refine (AllReadyH.cons rfl (fun K hK => ?_) AllReadyH.nil)
       go_simp
       refine hK.out _ _ ?_ (fun hHeld => ?_)
       ·(first | exact hc7 | exact hc6 | exact hca | exact hc5 | exact hcd | exact c0)
       clear hK K
       try simp only [Act.put, gA]
       refine wpAnyH_done (by kernel_rfl) ?_ _
       clear hHeld
       go_wp2_with fail
       go_roundw
       case rel => exact ⟨k + 1, a6, c6, lk ++ [(x0, x1, x2)], s2.1, s2.2, by have := HLt.out; omega, (by first | rfl | (rw [m5]; rfl)), HG2, HI7, HO7⟩
       case measure => (try rw [m5]); exact k_meas HLt.out
    ·have q1 : (er == 0) = false := by simpa using q
     have HST := Hd (gList_stay idC N s12 k hk (by rw [HG.out]; exact q))
     have HQ := Hd q
     clear q hk hlt
     go_wp2_with fail
     go_meet
     rw [HLL.out, HG.out] at HST
     exact ⟨a, k, cp, lk, (by have e := HST.out; simp only at e; rw [e]; exact HI), HO, Hd (fun z => absurd (by have e := HST.out; simp only at e; rw [← z, e]) HQ.out)⟩
   ·have hkN : k = N := by omega
    subst hkN
    have g1 : ¬ (k : Int) < (k : Int) := by omega
    have g2 : decide ((k : Int) < (k : Int)) = false := decide_eq_false g1
    have hfin := HG.out
    rw [HLL.out] at hfin
    simp only [Prod.mk.injEq] at hfin
    obtain ⟨e1, e2⟩ := hfin
    have E1 := Hd e1
    have E2 := Hd e2
    clear e1 e2 hk hlt
    go_wp2_with fail
    go_meet
    exact ⟨a, k, cp, lk, (by rw [E2.out]; exact HI), HO, Hd (fun _ => E1.out.symm)⟩
 case rest =>
 clear HI c0
 obtain ⟨a, m, c, l, HI, HO, HY⟩ := hcut
 have c0 := HI.out.ci
 have HX := Hd HI.out.bx
 have HZ := Hd HI.out.bz
 have HXi : Hid ((Tryz.prog.info? 59).map (·.size) = some 15) := Hd (by kernel_rfl)
 have HL := Hd (isr_out HI.out)
 have HLv := Hd (run_loadVar_row _ _ _ _ #[.int .i64 n0, .int .i64 n1, .int .i64 n2, .int .i64 n3, .int .i64 n4, .int .i64 n5, .int .i64 n6, .int .i64 n7, .string n8, .string n9, .int .i64 n10, .int .i64 n11, .int .i64 n12, .int .i64 n13, .slice a m c] (0, 0) _ (heap_setRow_same _ _ #[.int .i64 0, .int .i64 0, .int .i64 0, .int .i64 0, .int .i64 0, .int .i64 0, .int .i64 0, .int .i64 0, .string ⟨#[]⟩, .string ⟨#[]⟩, .int .i64 0, .int .i64 0, .int .i64 0, .int .i64 0, .slice none 0 0] #[.int .i64 n0, .int .i64 n1, .int .i64 n2, .int .i64 n3, .int .i64 n4, .int .i64 n5, .int .i64 n6, .int .i64 n7, .string n8, .string n9, .int .i64 n10, .int .i64 n11, .int .i64 n12, .int .i64 n13, .slice a m c] _ HZ.out) Tryz.underlying59 rfl HXi.out)
 go_wp2_with (first | (refine wpList_load_row rfl _ _ rfl (w.heap.size + 1 + 1) rfl 59 #[.int .i64 n0, .int .i64 n1, .int .i64 n2, .int .i64 n3, .int .i64 n4, .int .i64 n5, .int .i64 n6, .int .i64 n7, .string n8, .string n9, .int .i64 n10, .int .i64 n11, .int .i64 n12, .int .i64 n13, .slice a m c] (0, 0) _ HX.out Tryz.underlying59 rfl HXi.out ?_) | (refine wpList_store_row rfl 59 _ _ rfl (w.heap.size + 1) rfl #[.int .i64 n0, .int .i64 n1, .int .i64 n2, .int .i64 n3, .int .i64 n4, .int .i64 n5, .int .i64 n6, .int .i64 n7, .string n8, .string n9, .int .i64 n10, .int .i64 n11, .int .i64 n12, .int .i64 n13, .slice a m c] rfl #[.int .i64 0, .int .i64 0, .int .i64 0, .int .i64 0, .int .i64 0, .int .i64 0, .int .i64 0, .int .i64 0, .string ⟨#[]⟩, .string ⟨#[]⟩, .int .i64 0, .int .i64 0, .int .i64 0, .int .i64 0, .slice none 0 0] 59 HZ.out HXi.out rfl (by rw [← Array.all_toList]; rfl) ?_))
 have hlv := HLv.out
 exact bodyPost_ret (v := .agg #[.int .i64 n0, .int .i64 n1, .int .i64 n2, .int .i64 n3, .int .i64 n4, .int .i64 n5, .int .i64 n6, .int .i64 n7, .string n8, .string n9, .int .i64 n10, .int .i64 n11, .int .i64 n12, .int .i64 n13, .slice a m c]) (by simp [results, Tryz.results50, asAddr, Act.put, hlv]) rfl (⟨(n0, (n1, n2), (n3, n4), (n5, n6, n7, n8, n9, n10, n11, n12), n13, l), a, m, c, rfl, (HO.out.keep (fun k hk _ => HL.out.2.2.1 k (by omega))).base (by omega), (fun z => by rw [HY.out z]), HL.out.1, HL.out.2.1⟩)
end Go.Proofs.YtnancdbkmompdaaGreat
