/-
 The document's state of records: its elements, its Add.
-/
import Derived.Test.YtnancdbkmompdaaGreatRY
import Derived.Test.YtnancdbkmompdaaGreatRQS
namespace Go.Proofs.YtnancdbkmompdaaGreat
open Go.RowKit Go.Sort
set_option linter.unusedSimpArgs false
set_option linter.unusedVariables false
set_option maxRecDepth 100000
set_option maxHeartbeats 40000000
/-- An instance with its name, and where its list lies. -/
abbrev OV : Type := (I3 × Ins) × (Option Addr × Nat × Nat)
def ovE (e : OV) : List Value := [.int .i64 e.1.1.1, .int .i64 e.1.1.2.1, .int .i64 e.1.1.2.2, .int .i64 e.1.2.1, .int .i64 e.1.2.2.1.1, .int .i64 e.1.2.2.1.2, .int .i64 e.1.2.2.2.1.1, .int .i64 e.1.2.2.2.1.2, .int .i64 e.1.2.2.2.2.1.1, .int .i64 e.1.2.2.2.2.1.2.1, .int .i64 e.1.2.2.2.2.1.2.2.1, .string e.1.2.2.2.2.1.2.2.2.1, .string e.1.2.2.2.2.1.2.2.2.2.1, .int .i64 e.1.2.2.2.2.1.2.2.2.2.2.1, .int .i64 e.1.2.2.2.2.1.2.2.2.2.2.2.1, .int .i64 e.1.2.2.2.2.1.2.2.2.2.2.2.2, .int .i64 e.1.2.2.2.2.2.1, .slice e.2.1 e.2.2.1 e.2.2.2]
noncomputable def KO : Knd Tryz.prog OV where
 T := 86
 S := 39
 k := 18
 enc := ovE
 z := .agg #[.int .i64 0, .int .i64 0, .int .i64 0, .int .i64 0, .int .i64 0, .int .i64 0, .int .i64 0, .int .i64 0, .int .i64 0, .int .i64 0, .int .i64 0, .string ⟨#[]⟩, .string ⟨#[]⟩, .int .i64 0, .int .i64 0, .int .i64 0, .int .i64 0, .slice none 0 0]
 B := 176
 len := fun _ => rfl
 one := fun x v h => by
  unfold ovE at h
  simp only [List.mem_cons, List.not_mem_nil, or_false] at h
  rcases h with rfl | rfl | rfl | rfl | rfl | rfl | rfl | rfl | rfl | rfl | rfl | rfl | rfl | rfl | rfl | rfl | rfl | rfl <;> rfl
 und := Tryz.underlying39
 info := by kernel_rfl
 zc := rfl
 pos := by omega
 small := by omega
 d := (((0, 0, 0), insZ), (none, 0, 0))
abbrev kO (e : OV) : I3 := e.1.1
/-- What an element's list reads as. -/
def Dp (w : World) (e : OV) : Prop := IK.Rd w (.slice e.2.1 e.2.2.1 e.2.2.2) e.1.2.2.2.2.2.2
theorem Dp.below {w w' : World} {e : OV} (h : Dp w e) (hb : Below w.heap.size w w') : Dp w' e := Knd.Rd.below h hb
/-- The document's state: its cells. -/
structure RS (w : World) (cs : Array Value) (x : Snp) (l : List OV) : Prop where
 cells : ∃ v1 v2 v3 vL, cs = #[.int .i64 x.1.1, v1, v2, v3, vL] ∧ snS.is w [.int .i64 x.1.1, v1, v2, v3] x ∧ KO.Rd w vL l
 dep : ∀ e ∈ l, Dp w e
theorem RS.on {w w' : World} {cs : Array Value} {x : Snp} {l : List OV} (h : RS w cs x l) (hb : Below w.heap.size w w') : RS w' cs x l := by
 obtain ⟨v1, v2, v3, vL, e, h1, h2⟩ := h.cells
 exact ⟨⟨v1, v2, v3, vL, e, snS.keep h1 hb, h2.below hb⟩, fun e he => (h.dep e he).below hb⟩
theorem RS.lit {w : World} {cs : Array Value} {x : Snp} {l : List OV} (h : RS w cs x l) : ∃ (a1 : Option Addr) (m1 c1 : Nat) (a2 : Option Addr) (m2 c2 : Nat) (a3 : Option Addr) (m3 c3 : Nat) (aL : Option Addr) (cL : Nat), cs = #[.int .i64 x.1.1, .slice a1 m1 c1, .slice a2 m2 c2, .slice a3 m3 c3, .slice aL l.length cL] ∧ snS.is w [.int .i64 x.1.1, .slice a1 m1 c1, .slice a2 m2 c2, .slice a3 m3 c3] x ∧ KO.Rd w (.slice aL l.length cL) l := by
 obtain ⟨v1, v2, v3, vL, e, h1, h2⟩ := h.cells
 obtain ⟨a1, m1, c1, rs1, a2, m2, c2, rs2, a3, m3, c3, rs3, hcs, -, -, -⟩ := sn_is h1
 simp only [snV, List.cons.injEq, and_true, true_and] at hcs
 obtain ⟨rfl, rfl, rfl⟩ := hcs
 obtain ⟨aL, cL, rfl⟩ := h2.slice
 exact ⟨_, _, _, _, _, _, _, _, _, _, _, e, h1, h2⟩
theorem insS_len {β : Type} (key : β → I3) (new : β) : ∀ (l : List β) (s : List β × Bool), (l.foldl (insS key new) s).1.length ≤ s.1.length + 2 * l.length
 | [], s => by simp
 | e :: r, s => by
  have h1 : (insS key new s e).1.length ≤ s.1.length + 2 := by
   unfold insS
   dsimp only
   split <;> split <;> (try simp only [List.length_append, List.length_singleton]) <;> omega
  have := insS_len key new r (insS key new s e)
  rw [List.foldl_cons, List.length_cons]
  omega
theorem insS_snoc {β : Type} (key : β → I3) (new : β) (l : List β) (k : Nat) (hk : k < l.length) (s : List β × Bool) : (l.take (k + 1)).foldl (insS key new) s = insS key new ((l.take k).foldl (insS key new) s) l[k] := by
 rw [List.take_add_one, List.getElem?_eq_getElem hk, List.foldl_append]
 rfl
theorem insS_mem {β : Type} (key : β → I3) (new : β) (P : β → Prop) (hn : P new) : ∀ (l : List β) (s : List β × Bool), (∀ e ∈ l, P e) → (∀ e ∈ s.1, P e) → ∀ e ∈ (l.foldl (insS key new) s).1, P e
 | [], s, _, hs => hs
 | e :: r, s, hl, hs => by
  rw [List.foldl_cons]
  refine insS_mem key new P hn r _ (fun x hx => hl x (List.mem_cons_of_mem _ hx)) fun x hx => ?_
  have he := hl e List.mem_cons_self
  unfold insS at hx
  dsimp only at hx
  have kn : ∀ z, z = new → P z := fun z hz => hz ▸ hn
  have ke : ∀ z, z = e → P z := fun z hz => hz ▸ he
  split at hx <;> split at hx <;> (try simp only [List.mem_append, List.mem_singleton] at hx) <;> (first | exact hs x hx | (rcases hx with hx | hx; (first | exact hs x hx | (rcases hx with hx | hx; exact hs x hx; exact kn x hx)); (first | exact kn x hx | exact ke x hx)))
theorem run_load_at {P : Program} (w : World) (ty : TypeId) (a : Addr) (cs : List Value) (d : TypeDesc) (hc : ∀ j v, cs[j]? = some v → w.cell? (a.add j) = some v)
  (hu : P.underlying ty = some d) (hd : (match d with | .struct _ | .array _ _ => true | _ => false) = true) (hi : (P.info? ty).map (·.size) = some cs.length) :
  (loadVar ty a).run P w = .ok (.agg cs.toArray) w := by
 have hl := run_loadCells_list (P := P) w a cs hc
 cases hq : P.info? ty with
 | none => simp [hq] at hi
 | some i =>
  have hs : i.size = cs.length := by simpa [hq] using hi
  have hagg : (isAgg ty).run P w = .ok true w := by
   unfold isAgg
   rw [Sem.run_bind, run_underlying hu w]
   cases d <;> simp_all
  simp [loadVar, Sem.run_bind, hagg, sizeOf, typeInfo, hq, hs, hl]
theorem take_load_at {P : Program} {ρ : Operand → Value} {o : Oper} {w : World} (ty : TypeId) (x : Operand) (ho : o.op = .load ty x) (a : Addr) (hx : ρ x = .pointer (some a)) (cs : List Value) (d : TypeDesc) (hc : ∀ j v, cs[j]? = some v → w.cell? (a.add j) = some v)
  (hu : P.underlying ty = some d) (hd : (match d with | .struct _ | .array _ _ => true | _ => false) = true) (hi : (P.info? ty).map (·.size) = some cs.length) : (execOp ρ o).run P w = .ok (.value (.agg cs.toArray)) w := by
 unfold execOp
 simp only [ho, hx, Instr.loadAt, Instr.sureAddr, Sem.run_bind, Sem.run_pure, Result.andThen_ok, run_load_at w ty a cs d hc hu hd hi]
section
variable {P : Program} {α : Type} {ops : Array Oper} {o : Oper} {a : Act} {w : World} {K : Act → World → Prop} {Q : Exit → Act → World → Prop} {E : Prop}
theorem step_valueV {P : Program} (hg : o.guard = none) (v : Value) (w' : World) (hr : (execOp a.eval o).run P w = .ok (.value v) w') (hK : K (a.put o.dst v) w') :
  if Region.wanted o (yielded ops a.tmps) = true then Oper.wp P o a w K Q else E := by
 rw [if_pos (by simp [Region.wanted, hg])]
 unfold Oper.wp
 rw [hr]
 exact hK
/-- 'append(l, x)' at a step of a region that draws. -/
theorem Knd.step_appV (Kd : Knd P α) (hgd : o.guard = none) (s x : Operand) (ho : o.op = .call { callee := .builtin .append, args := #[s, x], argTypes := #[Kd.S, Kd.S] })
  (base : Nat) (v : Value) (l : List α) (hs : a.eval s = v) (hown : Kd.Own w base v l) (vy : Value) (y : α) (hx : a.eval x = vy) (hks : Kd.Rd w vy [y])
  (hl : l.length + 1 ≤ 1000000) (hbase : base ≤ w.heap.size)
  (hK : ∀ v' w', Kd.Own w' base v' (l ++ [y]) → Below base w w' → w.grownBy w' v.ownBlock → K (a.put o.dst v') w') : if Region.wanted o (yielded ops a.tmps) = true then Oper.wp P o a w K Q else E := by
 obtain ⟨v', w', hr, q1, q2, q3, q4⟩ := Kd.run_app hown vy [y] hks (fun _ _ => trivial) hl hbase o.type
 refine step_valueV hgd v' w' ?_ (hK v' w' q1 q2 q3)
 unfold execOp
 simp only [ho, resolve, invoke, builtin, Sem.run_bind, Sem.run_pure, Result.andThen_ok, List.map_toArray, List.map_cons, List.map_nil, hs, hx, hr]
end
theorem addr_add (g o j : Nat) : (⟨g, o, none⟩ : Addr).add j = ⟨g, o + j, none⟩ := by unfold Addr.add; split <;> simp_all
/-- What Add answers. -/
def RaP (x : Snp) (l : List OV) (cs : Array Value) (vr : Value) (r : Rec4) (y : Snp × Pl) (w : World) (e : Ending) (w' : World) : Prop := ∃ (cs' : Array Value) (l' : List OV), Hid (e = .returned (.agg cs')) ∧ (∀ w'' : World, RS w'' cs x l → RecIs w'' vr r → (∀ k, w.heap.size ≤ k → k < w'.heap.size → w''.heap[k]? = w'.heap[k]?) → RS w'' cs' y.1 l') ∧ l'.map (·.1) = y.2 ∧ Below w.heap.size w w'
theorem RS.sn {w : World} {n : Int} {u1 u2 u3 uL : Value} {x : Snp} {l : List OV} (h : RS w #[.int .i64 n, u1, u2, u3, uL] x l) : snS.is w [.int .i64 x.1.1, u1, u2, u3] x := by
 obtain ⟨v1, v2, v3, vL, e, h1, _⟩ := h.cells
 simp only [Array.mk.injEq, List.cons.injEq, and_true] at e
 obtain ⟨_, rfl, rfl, rfl, rfl⟩ := e
 exact h1
theorem rec_read {w : World} {n0 : Bool} {n1 n2 n3 n4 n5 n6 n7 n8 n9 n10 n11 n14 n15 n16 n17 n19 : Int} {n12 n13 : ByteArray} {a18 a20 a21 a22 : Option Addr} {m18 p18 m20 p20 m21 p21 m22 p22 : Nat} {l18 : List I3} {l20 : List Int} {l21 : List Ent} {l22 : List Ses}
  (h : RecIs w (.agg #[.bool n0, .int .i64 n1, .int .i64 n2, .int .i64 n3, .int .i64 n4, .int .i64 n5, .int .i64 n6, .int .i64 n7, .int .i64 n8, .int .i64 n9, .int .i64 n10, .int .i64 n11, .string n12, .string n13, .int .i64 n14, .int .i64 n15, .int .i64 n16, .int .i64 n17, .slice a18 m18 p18, .int .i64 n19, .slice a20 m20 p20, .slice a21 m21 p21, .slice a22 m22 p22]) (n0, (n1, n2, n3), (n4, (n5, n6), (n7, n8), (n9, n10, n11, n12, n13, n14, n15, n16), n17, l18), ((n19, l20), l21, l22))) :
  snS.is w [.int .i64 n19, .slice a20 m20 p20, .slice a21 m21 p21, .slice a22 m22 p22] ((n19, l20), l21, l22) ∧ IK.Rd w (.slice a18 m18 p18) l18 := by
 obtain ⟨cr, hcr, hrc⟩ := h
 simp only [Value.agg.injEq] at hcr
 subst hcr
 obtain ⟨b18, k18, q18, rs18, b20, k20, q20, rs20, b21, k21, q21, rs21, b22, k22, q22, rs22, hcs, hs12, hs13, hr18, hr20, hr21, hr22⟩ := rc_is hrc
 simp [idE, inV, snV] at hcs
 obtain ⟨⟨rfl, rfl, rfl⟩, ⟨rfl, rfl, rfl⟩, ⟨rfl, rfl, rfl⟩, rfl, rfl, rfl⟩ := hcs
 exact ⟨sn_mk (x := ((n19, l20), l21, l22)) hr20 hr21 hr22, ik_of_row hr18⟩
/-- An element's cells. -/
theorem ovCell {w : World} {a : Option Addr} {n c : Nat} {l : List OV} (h : KO.Rd w (.slice a n c) l) (k : Nat) (hk : k < n) : ∃ g off, a = some ⟨g, off, none⟩ ∧ g < w.heap.size ∧ k < l.length ∧ ∀ (j : Nat) (v : Value), (ovE (l.getD k KO.d))[j]? = some v → w.cell? ⟨g, off + k * 18 + j, none⟩ = some v := by
 have hl : l ≠ [] := by
  rintro rfl
  obtain ⟨a', c', e', _⟩ := h
  simp at e'
  omega
 obtain ⟨hn, g, off, ha, hg, hc⟩ := h.at hl
 refine ⟨g, off, ha, hg, by omega, fun j v hv => hc k hk j v hv⟩
theorem radd_a (x : Snp) (l : List OV) (cs : Array Value) (vr : Value) (r : Rec4) (w : World) (h : RS w cs x l) (hr : RecIs w vr r) (hL : l.length ≤ 1000) (hN : Sn6 r.2.2.2) (h0 : r.1 = true) (hv : Cv.valB r.2.2.2.1.1 r.2.2.2.1.2 = true) (hg : x.1.1 < r.2.2.2.1.1) : Calls Tryz.prog 23 #[.agg cs, vr] w (RaP x l cs vr r (addR x (l.map (·.1)) r) w) := by
 obtain ⟨a1, k1, c1, a2, k2, c2, a3, k3, c3, aL, cL, hcs, hsn, hrd⟩ := h.lit
 obtain ⟨x0, hx0⟩ : ∃ q, x.1.1 = q := ⟨_, rfl⟩
 obtain ⟨NL, hNL⟩ : ∃ q, l.length = q := ⟨_, rfl⟩
 rw [hx0, hNL] at hcs
 rw [hx0] at hsn
 rw [hNL] at hrd
 obtain ⟨cr, rfl, hrc⟩ := hr
 obtain ⟨a18, m18, p18, rs18, a20, m20, p20, rs20, a21, m21, p21, rs21, a22, m22, p22, rs22, hcr, hs12, hs13, hr18, hr20, hr21, hr22⟩ := rc_is hrc
 obtain ⟨n0, ⟨n1, n2, n3⟩, ⟨n4, ⟨n5, n6⟩, ⟨n7, n8⟩, ⟨n9, n10, n11, n12, n13, n14, n15, n16⟩, n17, l18⟩, ⟨n19, l20⟩, l21, l22⟩ := r
 obtain rfl : cr = #[.bool n0, .int .i64 n1, .int .i64 n2, .int .i64 n3, .int .i64 n4, .int .i64 n5, .int .i64 n6, .int .i64 n7, .int .i64 n8, .int .i64 n9, .int .i64 n10, .int .i64 n11, .string n12, .string n13, .int .i64 n14, .int .i64 n15, .int .i64 n16, .int .i64 n17, .slice a18 m18 p18, .int .i64 n19, .slice a20 m20 p20, .slice a21 m21 p21, .slice a22 m22 p22] := by
  cases cr
  simpa [idE, inV, snV] using hcr
 subst hcs
 obtain ⟨X, hX⟩ : ∃ X, ((w.alloc (.cells #[.int .i64 x0, .slice a1 k1 c1, .slice a2 k2 c2, .slice a3 k3 c3, .slice aL NL cL] 41)).alloc (.cells #[.bool n0, .int .i64 n1, .int .i64 n2, .int .i64 n3, .int .i64 n4, .int .i64 n5, .int .i64 n6, .int .i64 n7, .int .i64 n8, .int .i64 n9, .int .i64 n10, .int .i64 n11, .string n12, .string n13, .int .i64 n14, .int .i64 n15, .int .i64 n16, .int .i64 n17, .slice a18 m18 p18, .int .i64 n19, .slice a20 m20 p20, .slice a21 m21 p21, .slice a22 m22 p22] 81)).alloc (.cells #[.int .i64 0, .slice none 0 0, .slice none 0 0, .slice none 0 0, .slice none 0 0] 41) = X := ⟨_, rfl⟩
 have hB : Below w.heap.size w X := by rw [← hX]; exact (((Below.refl _ _).alloc (Nat.le_refl _) _).alloc (by simp) _).alloc (by simp; omega) _
 have hXz : X.heap.size = w.heap.size + 3 := by rw [← hX]; simp
 have hb2 : Bk X w.heap.size 41 [.int .i64 x0, .slice a1 k1 c1, .slice a2 k2 c2, .slice a3 k3 c3, .slice aL NL cL] := by rw [← hX]; exact ((Bk.new w _ _).old _).old _
 have hb3 : Bk X (w.heap.size + 1) 81 [.bool n0, .int .i64 n1, .int .i64 n2, .int .i64 n3, .int .i64 n4, .int .i64 n5, .int .i64 n6, .int .i64 n7, .int .i64 n8, .int .i64 n9, .int .i64 n10, .int .i64 n11, .string n12, .string n13, .int .i64 n14, .int .i64 n15, .int .i64 n16, .int .i64 n17, .slice a18 m18 p18, .int .i64 n19, .slice a20 m20 p20, .slice a21 m21 p21, .slice a22 m22 p22] := by rw [← hX]; have := (Bk.new (w.alloc (.cells #[.int .i64 x0, .slice a1 k1 c1, .slice a2 k2 c2, .slice a3 k3 c3, .slice aL NL cL] 41)) 81 [.bool n0, .int .i64 n1, .int .i64 n2, .int .i64 n3, .int .i64 n4, .int .i64 n5, .int .i64 n6, .int .i64 n7, .int .i64 n8, .int .i64 n9, .int .i64 n10, .int .i64 n11, .string n12, .string n13, .int .i64 n14, .int .i64 n15, .int .i64 n16, .int .i64 n17, .slice a18 m18 p18, .int .i64 n19, .slice a20 m20 p20, .slice a21 m21 p21, .slice a22 m22 p22]).old (.cells #[.int .i64 0, .slice none 0 0, .slice none 0 0, .slice none 0 0, .slice none 0 0] 41); rwa [World.size_alloc] at this
 have hb4 : Bk X (w.heap.size + 1 + 1) 41 [.int .i64 0, .slice none 0 0, .slice none 0 0, .slice none 0 0, .slice none 0 0] := by rw [← hX]; have := Bk.new ((w.alloc (.cells #[.int .i64 x0, .slice a1 k1 c1, .slice a2 k2 c2, .slice a3 k3 c3, .slice aL NL cL] 41)).alloc (.cells #[.bool n0, .int .i64 n1, .int .i64 n2, .int .i64 n3, .int .i64 n4, .int .i64 n5, .int .i64 n6, .int .i64 n7, .int .i64 n8, .int .i64 n9, .int .i64 n10, .int .i64 n11, .string n12, .string n13, .int .i64 n14, .int .i64 n15, .int .i64 n16, .int .i64 n17, .slice a18 m18 p18, .int .i64 n19, .slice a20 m20 p20, .slice a21 m21 p21, .slice a22 m22 p22] 81)) 41 [.int .i64 0, .slice none 0 0, .slice none 0 0, .slice none 0 0, .slice none 0 0]; simpa using this
 have HB := Hd hB
 have H2 := Hd hb2
 have H3 := Hd hb3
 have H4 := Hd hb4
 have HXz := Hd hXz
 have HRS := Hd h
 have HSn := Hd hsn
 have HRd := Hd hrd
 have HNL := Hd hNL
 have HI5 : Hid ((Tryz.prog.info? 41).map (·.size) = some 5) := Hd (by kernel_rfl)
 have HS2 : Hid (snS.is w [.int .i64 n19, .slice a20 m20 p20, .slice a21 m21 p21, .slice a22 m22 p22] ((n19, l20), l21, l22)) := Hd (sn_mk (x := ((n19, l20), l21, l22)) hr20 hr21 hr22)
 have HIk := Hd (ik_of_row hr18)
 have HVa := Hd (fun (W : World) (hW : Below w.heap.size w W) => rv10 n19 a20 m20 p20 rs20 l20 W (hr20.on hW) hN.a)
 have HXX := Hd hX
 have hx0' := hx0
 have HX0 := Hd hx0'
 clear h hsn hrd hrc hcr hs12 hs13 hr18 hr20 hr21 hr22 hB hb2 hb3 hb4 hXz hX hNL hx0'
 simp only at h0 hv hg
 subst h0
 rw [hx0] at hg
 have HV := Hd hv
 clear hv hx0
 have hg2 : decide (x0 < n19) = true := decide_eq_true hg
 have s0 := H2.out.cell 0
 simp only [gB] at s0
 have z0 := H3.out.cell 0
 have z19 := H3.out.cell 19
 have z20 := H3.out.cell 20
 have z21 := H3.out.cell 21
 have z22 := H3.out.cell 22
 simp only [gB] at z0 z19 z20 z21 z22
 go_enter Tryz.func23, Tryz.ntmps23
 go_wp2_with fail
 rw [HXX.out]
 refine (HVa.out X HB.out).mono ?_
 rintro e w1 ⟨rfl, hb⟩
 rw [HV.out]
 clear s0 z0 z19 z20 z21 z22
 have H2b := Hd (H2.out.below hb)
 have H3b := Hd (H3.out.below hb)
 have H4b := Hd (H4.out.below hb)
 have HB1 := Hd (HB.out.trans (hb.mono HB.out.size))
 clear hb
 have s0 := H2b.out.cell 0
 simp only [gB] at s0
 have z19 := H3b.out.cell 19
 have z20 := H3b.out.cell 20
 have z21 := H3b.out.cell 21
 have z22 := H3b.out.cell 22
 simp only [gB] at z19 z20 z21 z22
 obtain ⟨w9, hw9⟩ : ∃ q, (w1).setRow (w.heap.size + 1 + 1) #[.int .i64 n19, .slice a20 m20 p20, .slice a21 m21 p21, .slice a22 m22 p22, .slice none 0 0] = q := ⟨_, rfl⟩
 have hrow9 : w9.heap[w.heap.size + 1 + 1]? = some (.cells #[.int .i64 n19, .slice a20 m20 p20, .slice a21 m21 p21, .slice a22 m22 p22, .slice none 0 0] 41 (0, 0)) := by rw [← hw9]; exact heap_setRow_same _ _ #[.int .i64 0, .slice none 0 0, .slice none 0 0, .slice none 0 0, .slice none 0 0] _ _ H4b.out
 have HLv := Hd (run_loadVar_row (P := Tryz.prog) w9 _ _ 41 #[.int .i64 n19, .slice a20 m20 p20, .slice a21 m21 p21, .slice a22 m22 p22, .slice none 0 0] (0, 0) _ hrow9 Tryz.underlying41 rfl HI5.out)
 have hsx9 : Sx (w.heap.size + 1 + 1) (w1) w9 := by rw [← hw9]; exact sx_setRow _ _ _
 have HBe : Hid (Below w.heap.size w w9) := Hd (by rw [← hw9]; exact below_setRow HB1.out (by omega) _)
 have HOld := Hd H4b.out
 have HW9 := Hd hw9
 clear hw9 hrow9 hsx9
 go_wp2_with (refine wpList_store_rnA rfl 41 _ _ rfl (w.heap.size + 1 + 1) rfl #[.int .i64 n19, .slice a20 m20 p20, .slice a21 m21 p21, .slice a22 m22 p22, .slice none 0 0] rfl #[.int .i64 0, .slice none 0 0, .slice none 0 0, .slice none 0 0, .slice none 0 0] 41 HOld.out HI5.out rfl (by rw [← Array.all_toList]; rfl) HW9.out ?_)
 have e : addR x (l.map (·.1)) (true, (n1, n2, n3), (n4, (n5, n6), (n7, n8), (n9, n10, n11, n12, n13, n14, n15, n16), n17, l18), ((n19, l20), l21, l22)) = (((n19, l20), l21, l22), []) := by
  unfold addR
  rw [if_pos rfl, if_pos ⟨HV.out, by rw [HX0.out]; exact hg⟩]
 rw [e]
 have hlv := HLv.out
 exact bodyPost_ret (v := .agg #[.int .i64 n19, .slice a20 m20 p20, .slice a21 m21 p21, .slice a22 m22 p22, .slice none 0 0]) (by simp [results, Tryz.results23, asAddr, Act.put, hlv]) rfl ⟨#[.int .i64 n19, .slice a20 m20 p20, .slice a21 m21 p21, .slice a22 m22 p22, .slice none 0 0], [], Hd rfl, fun w'' hS hR hk => ⟨⟨_, _, _, _, rfl, (rec_read hR).1, Knd.Rd.nil _⟩, fun e he => by cases he⟩, rfl, HBe.out⟩
theorem radd_b (x : Snp) (l : List OV) (cs : Array Value) (vr : Value) (r : Rec4) (w : World) (h : RS w cs x l) (hr : RecIs w vr r) (hL : l.length ≤ 1000) (hN : Sn6 r.2.2.2) (h0 : r.1 = true) (hv : ¬ (Cv.valB r.2.2.2.1.1 r.2.2.2.1.2 = true ∧ x.1.1 < r.2.2.2.1.1)) : Calls Tryz.prog 23 #[.agg cs, vr] w (RaP x l cs vr r (addR x (l.map (·.1)) r) w) := by
 obtain ⟨a1, k1, c1, a2, k2, c2, a3, k3, c3, aL, cL, hcs, hsn, hrd⟩ := h.lit
 obtain ⟨x0, hx0⟩ : ∃ q, x.1.1 = q := ⟨_, rfl⟩
 obtain ⟨NL, hNL⟩ : ∃ q, l.length = q := ⟨_, rfl⟩
 rw [hx0, hNL] at hcs
 rw [hx0] at hsn
 rw [hNL] at hrd
 obtain ⟨cr, rfl, hrc⟩ := hr
 obtain ⟨a18, m18, p18, rs18, a20, m20, p20, rs20, a21, m21, p21, rs21, a22, m22, p22, rs22, hcr, hs12, hs13, hr18, hr20, hr21, hr22⟩ := rc_is hrc
 obtain ⟨n0, ⟨n1, n2, n3⟩, ⟨n4, ⟨n5, n6⟩, ⟨n7, n8⟩, ⟨n9, n10, n11, n12, n13, n14, n15, n16⟩, n17, l18⟩, ⟨n19, l20⟩, l21, l22⟩ := r
 obtain rfl : cr = #[.bool n0, .int .i64 n1, .int .i64 n2, .int .i64 n3, .int .i64 n4, .int .i64 n5, .int .i64 n6, .int .i64 n7, .int .i64 n8, .int .i64 n9, .int .i64 n10, .int .i64 n11, .string n12, .string n13, .int .i64 n14, .int .i64 n15, .int .i64 n16, .int .i64 n17, .slice a18 m18 p18, .int .i64 n19, .slice a20 m20 p20, .slice a21 m21 p21, .slice a22 m22 p22] := by
  cases cr
  simpa [idE, inV, snV] using hcr
 subst hcs
 obtain ⟨X, hX⟩ : ∃ X, ((w.alloc (.cells #[.int .i64 x0, .slice a1 k1 c1, .slice a2 k2 c2, .slice a3 k3 c3, .slice aL NL cL] 41)).alloc (.cells #[.bool n0, .int .i64 n1, .int .i64 n2, .int .i64 n3, .int .i64 n4, .int .i64 n5, .int .i64 n6, .int .i64 n7, .int .i64 n8, .int .i64 n9, .int .i64 n10, .int .i64 n11, .string n12, .string n13, .int .i64 n14, .int .i64 n15, .int .i64 n16, .int .i64 n17, .slice a18 m18 p18, .int .i64 n19, .slice a20 m20 p20, .slice a21 m21 p21, .slice a22 m22 p22] 81)).alloc (.cells #[.int .i64 0, .slice none 0 0, .slice none 0 0, .slice none 0 0, .slice none 0 0] 41) = X := ⟨_, rfl⟩
 have hB : Below w.heap.size w X := by rw [← hX]; exact (((Below.refl _ _).alloc (Nat.le_refl _) _).alloc (by simp) _).alloc (by simp; omega) _
 have hXz : X.heap.size = w.heap.size + 3 := by rw [← hX]; simp
 have hb2 : Bk X w.heap.size 41 [.int .i64 x0, .slice a1 k1 c1, .slice a2 k2 c2, .slice a3 k3 c3, .slice aL NL cL] := by rw [← hX]; exact ((Bk.new w _ _).old _).old _
 have hb3 : Bk X (w.heap.size + 1) 81 [.bool n0, .int .i64 n1, .int .i64 n2, .int .i64 n3, .int .i64 n4, .int .i64 n5, .int .i64 n6, .int .i64 n7, .int .i64 n8, .int .i64 n9, .int .i64 n10, .int .i64 n11, .string n12, .string n13, .int .i64 n14, .int .i64 n15, .int .i64 n16, .int .i64 n17, .slice a18 m18 p18, .int .i64 n19, .slice a20 m20 p20, .slice a21 m21 p21, .slice a22 m22 p22] := by rw [← hX]; have := (Bk.new (w.alloc (.cells #[.int .i64 x0, .slice a1 k1 c1, .slice a2 k2 c2, .slice a3 k3 c3, .slice aL NL cL] 41)) 81 [.bool n0, .int .i64 n1, .int .i64 n2, .int .i64 n3, .int .i64 n4, .int .i64 n5, .int .i64 n6, .int .i64 n7, .int .i64 n8, .int .i64 n9, .int .i64 n10, .int .i64 n11, .string n12, .string n13, .int .i64 n14, .int .i64 n15, .int .i64 n16, .int .i64 n17, .slice a18 m18 p18, .int .i64 n19, .slice a20 m20 p20, .slice a21 m21 p21, .slice a22 m22 p22]).old (.cells #[.int .i64 0, .slice none 0 0, .slice none 0 0, .slice none 0 0, .slice none 0 0] 41); rwa [World.size_alloc] at this
 have hb4 : Bk X (w.heap.size + 1 + 1) 41 [.int .i64 0, .slice none 0 0, .slice none 0 0, .slice none 0 0, .slice none 0 0] := by rw [← hX]; have := Bk.new ((w.alloc (.cells #[.int .i64 x0, .slice a1 k1 c1, .slice a2 k2 c2, .slice a3 k3 c3, .slice aL NL cL] 41)).alloc (.cells #[.bool n0, .int .i64 n1, .int .i64 n2, .int .i64 n3, .int .i64 n4, .int .i64 n5, .int .i64 n6, .int .i64 n7, .int .i64 n8, .int .i64 n9, .int .i64 n10, .int .i64 n11, .string n12, .string n13, .int .i64 n14, .int .i64 n15, .int .i64 n16, .int .i64 n17, .slice a18 m18 p18, .int .i64 n19, .slice a20 m20 p20, .slice a21 m21 p21, .slice a22 m22 p22] 81)) 41 [.int .i64 0, .slice none 0 0, .slice none 0 0, .slice none 0 0, .slice none 0 0]; simpa using this
 have HB := Hd hB
 have H2 := Hd hb2
 have H3 := Hd hb3
 have H4 := Hd hb4
 have HXz := Hd hXz
 have HRS := Hd h
 have HSn := Hd hsn
 have HRd := Hd hrd
 have HNL := Hd hNL
 have HI5 : Hid ((Tryz.prog.info? 41).map (·.size) = some 5) := Hd (by kernel_rfl)
 have HS2 : Hid (snS.is w [.int .i64 n19, .slice a20 m20 p20, .slice a21 m21 p21, .slice a22 m22 p22] ((n19, l20), l21, l22)) := Hd (sn_mk (x := ((n19, l20), l21, l22)) hr20 hr21 hr22)
 have HIk := Hd (ik_of_row hr18)
 have HVa := Hd (fun (W : World) (hW : Below w.heap.size w W) => rv10 n19 a20 m20 p20 rs20 l20 W (hr20.on hW) hN.a)
 have HXX := Hd hX
 have hx0' := hx0
 have HX0 := Hd hx0'
 clear h hsn hrd hrc hcr hs12 hs13 hr18 hr20 hr21 hr22 hB hb2 hb3 hb4 hXz hX hNL hx0'
 simp only at h0 hv
 subst h0
 rw [hx0] at hv
 clear hx0
 have e : addR x (l.map (·.1)) (true, (n1, n2, n3), (n4, (n5, n6), (n7, n8), (n9, n10, n11, n12, n13, n14, n15, n16), n17, l18), ((n19, l20), l21, l22)) = (x, l.map (·.1)) := by
  unfold addR
  rw [if_pos rfl, if_neg (by rw [HX0.out]; exact hv)]
 rw [e]
 have HV := Hd hv
 clear hv e
 have s0 := H2.out.cell 0
 simp only [gB] at s0
 have z0 := H3.out.cell 0
 have z19 := H3.out.cell 19
 have z20 := H3.out.cell 20
 have z21 := H3.out.cell 21
 have z22 := H3.out.cell 22
 simp only [gB] at z0 z19 z20 z21 z22
 go_enter Tryz.func23, Tryz.ntmps23
 go_wp2_with fail
 rw [HXX.out]
 refine (HVa.out X HB.out).mono ?_
 rintro e w1 ⟨rfl, hb⟩
 clear s0 z0 z19 z20 z21 z22
 have H2b := Hd (H2.out.below hb)
 have H3b := Hd (H3.out.below hb)
 have H4b := Hd (H4.out.below hb)
 have HB1 := Hd (HB.out.trans (hb.mono HB.out.size))
 clear hb
 have s0 := H2b.out.cell 0
 simp only [gB] at s0
 have z19 := H3b.out.cell 19
 simp only [gB] at z19
 cases hq : Cv.valB n19 l20 with
 | true =>
  have hg : ¬ x0 < n19 := fun z => HV.out ⟨hq, z⟩
  have hg2 : decide (x0 < n19) = false := decide_eq_false hg
  clear hq
  obtain ⟨w9, hw9⟩ : ∃ q, (w1).setRow (w.heap.size + 1 + 1) #[.int .i64 x0, .slice a1 k1 c1, .slice a2 k2 c2, .slice a3 k3 c3, .slice aL NL cL] = q := ⟨_, rfl⟩
  have hrow9 : w9.heap[w.heap.size + 1 + 1]? = some (.cells #[.int .i64 x0, .slice a1 k1 c1, .slice a2 k2 c2, .slice a3 k3 c3, .slice aL NL cL] 41 (0, 0)) := by rw [← hw9]; exact heap_setRow_same _ _ #[.int .i64 0, .slice none 0 0, .slice none 0 0, .slice none 0 0, .slice none 0 0] _ _ H4b.out
  have HLv := Hd (run_loadVar_row (P := Tryz.prog) w9 _ _ 41 #[.int .i64 x0, .slice a1 k1 c1, .slice a2 k2 c2, .slice a3 k3 c3, .slice aL NL cL] (0, 0) _ hrow9 Tryz.underlying41 rfl HI5.out)
  have hsx9 : Sx (w.heap.size + 1 + 1) (w1) w9 := by rw [← hw9]; exact sx_setRow _ _ _
  have HBe : Hid (Below w.heap.size w w9) := Hd (by rw [← hw9]; exact below_setRow HB1.out (by omega) _)
  have HOld := Hd H4b.out
  have HW9 := Hd hw9
  clear hw9 hrow9 hsx9
  go_upto_region 4 with fail
  go_wp2_with (first | refine wpList_load_rowG rfl _ _ rfl w.heap.size rfl 41 #[.int .i64 x0, .slice a1 k1 c1, .slice a2 k2 c2, .slice a3 k3 c3, .slice aL NL cL] (0, 0) _ H2b.out Tryz.underlying41 rfl HI5.out ?_ | refine wpList_store_rnA rfl 41 _ _ rfl (w.heap.size + 1 + 1) rfl #[.int .i64 x0, .slice a1 k1 c1, .slice a2 k2 c2, .slice a3 k3 c3, .slice aL NL cL] rfl #[.int .i64 0, .slice none 0 0, .slice none 0 0, .slice none 0 0, .slice none 0 0] 41 HOld.out HI5.out rfl (by rw [← Array.all_toList]; rfl) HW9.out ?_)
  have hlv := HLv.out
  exact bodyPost_ret (v := .agg #[.int .i64 x0, .slice a1 k1 c1, .slice a2 k2 c2, .slice a3 k3 c3, .slice aL NL cL]) (by simp [results, Tryz.results23, asAddr, Act.put, hlv]) rfl ⟨#[.int .i64 x0, .slice a1 k1 c1, .slice a2 k2 c2, .slice a3 k3 c3, .slice aL NL cL], l, Hd rfl, fun w'' hS hR hk => hS, rfl, HBe.out⟩
 | false =>
  clear hq
  obtain ⟨w9, hw9⟩ : ∃ q, (w1).setRow (w.heap.size + 1 + 1) #[.int .i64 x0, .slice a1 k1 c1, .slice a2 k2 c2, .slice a3 k3 c3, .slice aL NL cL] = q := ⟨_, rfl⟩
  have hrow9 : w9.heap[w.heap.size + 1 + 1]? = some (.cells #[.int .i64 x0, .slice a1 k1 c1, .slice a2 k2 c2, .slice a3 k3 c3, .slice aL NL cL] 41 (0, 0)) := by rw [← hw9]; exact heap_setRow_same _ _ #[.int .i64 0, .slice none 0 0, .slice none 0 0, .slice none 0 0, .slice none 0 0] _ _ H4b.out
  have HLv := Hd (run_loadVar_row (P := Tryz.prog) w9 _ _ 41 #[.int .i64 x0, .slice a1 k1 c1, .slice a2 k2 c2, .slice a3 k3 c3, .slice aL NL cL] (0, 0) _ hrow9 Tryz.underlying41 rfl HI5.out)
  have hsx9 : Sx (w.heap.size + 1 + 1) (w1) w9 := by rw [← hw9]; exact sx_setRow _ _ _
  have HBe : Hid (Below w.heap.size w w9) := Hd (by rw [← hw9]; exact below_setRow HB1.out (by omega) _)
  have HOld := Hd H4b.out
  have HW9 := Hd hw9
  clear hw9 hrow9 hsx9
  go_upto_region 4 with fail
  go_wp2_with (first | refine wpList_load_rowG rfl _ _ rfl w.heap.size rfl 41 #[.int .i64 x0, .slice a1 k1 c1, .slice a2 k2 c2, .slice a3 k3 c3, .slice aL NL cL] (0, 0) _ H2b.out Tryz.underlying41 rfl HI5.out ?_ | refine wpList_store_rnA rfl 41 _ _ rfl (w.heap.size + 1 + 1) rfl #[.int .i64 x0, .slice a1 k1 c1, .slice a2 k2 c2, .slice a3 k3 c3, .slice aL NL cL] rfl #[.int .i64 0, .slice none 0 0, .slice none 0 0, .slice none 0 0, .slice none 0 0] 41 HOld.out HI5.out rfl (by rw [← Array.all_toList]; rfl) HW9.out ?_)
  have hlv := HLv.out
  exact bodyPost_ret (v := .agg #[.int .i64 x0, .slice a1 k1 c1, .slice a2 k2 c2, .slice a3 k3 c3, .slice aL NL cL]) (by simp [results, Tryz.results23, asAddr, Act.put, hlv]) rfl ⟨#[.int .i64 x0, .slice a1 k1 c1, .slice a2 k2 c2, .slice a3 k3 c3, .slice aL NL cL], l, Hd rfl, fun w'' hS hR hk => hS, rfl, HBe.out⟩
theorem radd_c (x : Snp) (l : List OV) (cs : Array Value) (vr : Value) (r : Rec4) (w : World) (h : RS w cs x l) (hr : RecIs w vr r) (hL : l.length ≤ 1000) (hN : Sn6 r.2.2.2) (h0 : r.1 = false) (hv : r.2.1.1 ≠ x.1.1) : Calls Tryz.prog 23 #[.agg cs, vr] w (RaP x l cs vr r (addR x (l.map (·.1)) r) w) := by
 obtain ⟨a1, k1, c1, a2, k2, c2, a3, k3, c3, aL, cL, hcs, hsn, hrd⟩ := h.lit
 obtain ⟨x0, hx0⟩ : ∃ q, x.1.1 = q := ⟨_, rfl⟩
 obtain ⟨NL, hNL⟩ : ∃ q, l.length = q := ⟨_, rfl⟩
 rw [hx0, hNL] at hcs
 rw [hx0] at hsn
 rw [hNL] at hrd
 obtain ⟨cr, rfl, hrc⟩ := hr
 obtain ⟨a18, m18, p18, rs18, a20, m20, p20, rs20, a21, m21, p21, rs21, a22, m22, p22, rs22, hcr, hs12, hs13, hr18, hr20, hr21, hr22⟩ := rc_is hrc
 obtain ⟨n0, ⟨n1, n2, n3⟩, ⟨n4, ⟨n5, n6⟩, ⟨n7, n8⟩, ⟨n9, n10, n11, n12, n13, n14, n15, n16⟩, n17, l18⟩, ⟨n19, l20⟩, l21, l22⟩ := r
 obtain rfl : cr = #[.bool n0, .int .i64 n1, .int .i64 n2, .int .i64 n3, .int .i64 n4, .int .i64 n5, .int .i64 n6, .int .i64 n7, .int .i64 n8, .int .i64 n9, .int .i64 n10, .int .i64 n11, .string n12, .string n13, .int .i64 n14, .int .i64 n15, .int .i64 n16, .int .i64 n17, .slice a18 m18 p18, .int .i64 n19, .slice a20 m20 p20, .slice a21 m21 p21, .slice a22 m22 p22] := by
  cases cr
  simpa [idE, inV, snV] using hcr
 subst hcs
 obtain ⟨X, hX⟩ : ∃ X, ((w.alloc (.cells #[.int .i64 x0, .slice a1 k1 c1, .slice a2 k2 c2, .slice a3 k3 c3, .slice aL NL cL] 41)).alloc (.cells #[.bool n0, .int .i64 n1, .int .i64 n2, .int .i64 n3, .int .i64 n4, .int .i64 n5, .int .i64 n6, .int .i64 n7, .int .i64 n8, .int .i64 n9, .int .i64 n10, .int .i64 n11, .string n12, .string n13, .int .i64 n14, .int .i64 n15, .int .i64 n16, .int .i64 n17, .slice a18 m18 p18, .int .i64 n19, .slice a20 m20 p20, .slice a21 m21 p21, .slice a22 m22 p22] 81)).alloc (.cells #[.int .i64 0, .slice none 0 0, .slice none 0 0, .slice none 0 0, .slice none 0 0] 41) = X := ⟨_, rfl⟩
 have hB : Below w.heap.size w X := by rw [← hX]; exact (((Below.refl _ _).alloc (Nat.le_refl _) _).alloc (by simp) _).alloc (by simp; omega) _
 have hXz : X.heap.size = w.heap.size + 3 := by rw [← hX]; simp
 have hb2 : Bk X w.heap.size 41 [.int .i64 x0, .slice a1 k1 c1, .slice a2 k2 c2, .slice a3 k3 c3, .slice aL NL cL] := by rw [← hX]; exact ((Bk.new w _ _).old _).old _
 have hb3 : Bk X (w.heap.size + 1) 81 [.bool n0, .int .i64 n1, .int .i64 n2, .int .i64 n3, .int .i64 n4, .int .i64 n5, .int .i64 n6, .int .i64 n7, .int .i64 n8, .int .i64 n9, .int .i64 n10, .int .i64 n11, .string n12, .string n13, .int .i64 n14, .int .i64 n15, .int .i64 n16, .int .i64 n17, .slice a18 m18 p18, .int .i64 n19, .slice a20 m20 p20, .slice a21 m21 p21, .slice a22 m22 p22] := by rw [← hX]; have := (Bk.new (w.alloc (.cells #[.int .i64 x0, .slice a1 k1 c1, .slice a2 k2 c2, .slice a3 k3 c3, .slice aL NL cL] 41)) 81 [.bool n0, .int .i64 n1, .int .i64 n2, .int .i64 n3, .int .i64 n4, .int .i64 n5, .int .i64 n6, .int .i64 n7, .int .i64 n8, .int .i64 n9, .int .i64 n10, .int .i64 n11, .string n12, .string n13, .int .i64 n14, .int .i64 n15, .int .i64 n16, .int .i64 n17, .slice a18 m18 p18, .int .i64 n19, .slice a20 m20 p20, .slice a21 m21 p21, .slice a22 m22 p22]).old (.cells #[.int .i64 0, .slice none 0 0, .slice none 0 0, .slice none 0 0, .slice none 0 0] 41); rwa [World.size_alloc] at this
 have hb4 : Bk X (w.heap.size + 1 + 1) 41 [.int .i64 0, .slice none 0 0, .slice none 0 0, .slice none 0 0, .slice none 0 0] := by rw [← hX]; have := Bk.new ((w.alloc (.cells #[.int .i64 x0, .slice a1 k1 c1, .slice a2 k2 c2, .slice a3 k3 c3, .slice aL NL cL] 41)).alloc (.cells #[.bool n0, .int .i64 n1, .int .i64 n2, .int .i64 n3, .int .i64 n4, .int .i64 n5, .int .i64 n6, .int .i64 n7, .int .i64 n8, .int .i64 n9, .int .i64 n10, .int .i64 n11, .string n12, .string n13, .int .i64 n14, .int .i64 n15, .int .i64 n16, .int .i64 n17, .slice a18 m18 p18, .int .i64 n19, .slice a20 m20 p20, .slice a21 m21 p21, .slice a22 m22 p22] 81)) 41 [.int .i64 0, .slice none 0 0, .slice none 0 0, .slice none 0 0, .slice none 0 0]; simpa using this
 have HB := Hd hB
 have H2 := Hd hb2
 have H3 := Hd hb3
 have H4 := Hd hb4
 have HXz := Hd hXz
 have HRS := Hd h
 have HSn := Hd hsn
 have HRd := Hd hrd
 have HNL := Hd hNL
 have HI5 : Hid ((Tryz.prog.info? 41).map (·.size) = some 5) := Hd (by kernel_rfl)
 have HS2 : Hid (snS.is w [.int .i64 n19, .slice a20 m20 p20, .slice a21 m21 p21, .slice a22 m22 p22] ((n19, l20), l21, l22)) := Hd (sn_mk (x := ((n19, l20), l21, l22)) hr20 hr21 hr22)
 have HIk := Hd (ik_of_row hr18)
 have HVa := Hd (fun (W : World) (hW : Below w.heap.size w W) => rv10 n19 a20 m20 p20 rs20 l20 W (hr20.on hW) hN.a)
 have HXX := Hd hX
 have hx0' := hx0
 have HX0 := Hd hx0'
 clear h hsn hrd hrc hcr hs12 hs13 hr18 hr20 hr21 hr22 hB hb2 hb3 hb4 hXz hX hNL hx0'
 simp only at h0 hv
 subst h0
 rw [hx0] at hv
 clear hx0
 have e : addR x (l.map (·.1)) (false, (n1, n2, n3), (n4, (n5, n6), (n7, n8), (n9, n10, n11, n12, n13, n14, n15, n16), n17, l18), ((n19, l20), l21, l22)) = (x, l.map (·.1)) := by
  unfold addR
  rw [if_neg Bool.false_ne_true, if_pos (by rw [HX0.out]; exact hv)]
 rw [e]
 have q1 : (n1 == x0) = false := by simpa using hv
 have q2 : (n1 != x0) = true := by simpa using hv
 clear hv e
 have s0 := H2.out.cell 0
 simp only [gB] at s0
 have z0 := H3.out.cell 0
 have z1 := H3.out.cell 1
 simp only [gB] at z0 z1
 obtain ⟨w9, hw9⟩ : ∃ q, X.setRow (w.heap.size + 1 + 1) #[.int .i64 x0, .slice a1 k1 c1, .slice a2 k2 c2, .slice a3 k3 c3, .slice aL NL cL] = q := ⟨_, rfl⟩
 have hrow9 : w9.heap[w.heap.size + 1 + 1]? = some (.cells #[.int .i64 x0, .slice a1 k1 c1, .slice a2 k2 c2, .slice a3 k3 c3, .slice aL NL cL] 41 (0, 0)) := by rw [← hw9]; exact heap_setRow_same _ _ #[.int .i64 0, .slice none 0 0, .slice none 0 0, .slice none 0 0, .slice none 0 0] _ _ H4.out
 have HLv := Hd (run_loadVar_row (P := Tryz.prog) w9 _ _ 41 #[.int .i64 x0, .slice a1 k1 c1, .slice a2 k2 c2, .slice a3 k3 c3, .slice aL NL cL] (0, 0) _ hrow9 Tryz.underlying41 rfl HI5.out)
 have hsx9 : Sx (w.heap.size + 1 + 1) (X) w9 := by rw [← hw9]; exact sx_setRow _ _ _
 have HBe : Hid (Below w.heap.size w w9) := Hd (by rw [← hw9]; exact below_setRow HB.out (by omega) _)
 have HOld := Hd H4.out
 have HW9 := Hd hw9
 clear hw9 hrow9 hsx9
 go_enter Tryz.func23, Tryz.ntmps23
 go_upto_region 1 with fail
 rw [HXX.out]
 go_wp2_with (first | refine wpList_load_rowG rfl _ _ rfl w.heap.size rfl 41 #[.int .i64 x0, .slice a1 k1 c1, .slice a2 k2 c2, .slice a3 k3 c3, .slice aL NL cL] (0, 0) _ H2.out Tryz.underlying41 rfl HI5.out ?_ | refine wpList_store_rnA rfl 41 _ _ rfl (w.heap.size + 1 + 1) rfl #[.int .i64 x0, .slice a1 k1 c1, .slice a2 k2 c2, .slice a3 k3 c3, .slice aL NL cL] rfl #[.int .i64 0, .slice none 0 0, .slice none 0 0, .slice none 0 0, .slice none 0 0] 41 HOld.out HI5.out rfl (by rw [← Array.all_toList]; rfl) HW9.out ?_)
 have hlv := HLv.out
 exact bodyPost_ret (v := .agg #[.int .i64 x0, .slice a1 k1 c1, .slice a2 k2 c2, .slice a3 k3 c3, .slice aL NL cL]) (by simp [results, Tryz.results23, asAddr, Act.put, hlv]) rfl ⟨#[.int .i64 x0, .slice a1 k1 c1, .slice a2 k2 c2, .slice a3 k3 c3, .slice aL NL cL], l, Hd rfl, fun w'' hS hR hk => hS, rfl, HBe.out⟩
end Go.Proofs.YtnancdbkmompdaaGreat
