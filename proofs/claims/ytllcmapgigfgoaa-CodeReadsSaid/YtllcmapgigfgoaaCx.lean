/-
  Texts put together: Ch8, Ch9, ChA.
-/
import Derived.Test.YtllcmapgigfgoaaCy
import Derived.Test.YtllcmapgigfgoaaCd8
import Derived.Deep.MidRow
import Derived.Test.YtllcmapgigfgoaaWh
import Derived.Test.YtllcmapgigfgoaaGx
namespace Go.Proofs.Ytllcmapgigfgoaa
open Go.RowKit
set_option linter.unusedSimpArgs false
set_option linter.unusedVariables false

/-- Cells written over, from the o-th on. -/
def splice : List Value → Nat → List Value → List Value
  | cs, _, [] => cs
  | cs, o, v :: r => splice (cs.set o v) (o + 1) r
theorem Bk.sets {b : Nat} {T : TypeId} : ∀ (vs : List Value) (o : Nat) (w : World) (cs : List Value), Bk w b T cs → Bk (w.setCells b o vs) b T (splice cs o vs)
  | [], _, _, _, h => h
  | v :: r, o, w, cs, h => Bk.sets r (o + 1) _ _ (h.set o v)
theorem sets_far {b k : Nat} (hk : k ≠ b) : ∀ (vs : List Value) (o : Nat) (w : World), (w.setCells b o vs).heap[k]? = w.heap[k]?
  | [], _, _ => rfl
  | v :: r, o, w => (sets_far hk r (o + 1) _).trans (Below.heap_setCell _ _ _ _ hk)
theorem sets_like {b : Nat} : ∀ (vs : List Value) (o : Nat) (w : World), (w.setCells b o vs).os = w.os ∧ (w.setCells b o vs).tape = w.tape ∧ (w.setCells b o vs).output = w.output ∧ (w.setCells b o vs).heap.size = w.heap.size
  | [], _, _ => ⟨rfl, rfl, rfl, rfl⟩
  | v :: r, o, w => by
    obtain ⟨h1, h2, h3, h4⟩ := sets_like (b := b) r (o + 1) (w.setCell ⟨b, o, none⟩ v)
    exact ⟨h1, h2, h3, h4.trans (by simp)⟩
theorem Bk.there {w : World} {b : Nat} {T : TypeId} {cs : List Value} (h : Bk w b T cs) (o n : Nat) (hn : o + n ≤ cs.length) : w.there b o n := fun j hj =>
  ⟨by rw [h.cell]; rw [List.getElem?_eq_getElem (by omega)]; rfl, h.fz _⟩
theorem ES.sets {w0 w : World} {r : Nat} {s : ByteArray} {gi g : Nat} {T : TypeId} {cs : List Value} {st : RSt} (h : ES w0 w r s gi g T cs st) (o : Nat) (vs : List Value) : ES w0 (w.setCells g o vs) r s gi g T (splice cs o vs) st := by
  have := h.hr; have := h.hg; have := h.hi
  obtain ⟨l1, l2, l3, l4⟩ := sets_like (b := g) vs o w
  obtain ⟨a, h1, h2, h3⟩ := h.rd
  exact ⟨⟨a, h1, h2, (sets_far (by omega) vs o w).trans h3⟩, (sets_far (by omega) vs o w).trans h.bi, h.bx.sets vs o w cs, ⟨l1.trans h.fo.os, l2.trans h.fo.tape, l3.trans h.fo.output, (by rw [l4]; exact h.fo.size), fun k hk hne => (sets_far (by omega) vs o w).trans (h.fo.block k hk hne)⟩, h.hr, h.hi, h.hri, h.hg⟩
theorem ES.setRow {w0 w : World} {r : Nat} {s : ByteArray} {gi g : Nat} {T : TypeId} {cs : List Value} {st : RSt} (h : ES w0 w r s gi g T cs st) (vs : List Value) : ES w0 (w.setRow g vs.toArray) r s gi g T vs st := by
  have := h.hr; have := h.hg; have := h.hi
  have hb : ∀ k, k ≠ g → (w.setRow g vs.toArray).heap[k]? = w.heap[k]? := fun k hk => (sx_setRow _ g vs.toArray).block k hk
  obtain ⟨a, h1, h2, h3⟩ := h.rd
  exact ⟨⟨a, h1, h2, (hb _ (by omega)).trans h3⟩, (hb _ (by omega)).trans h.bi, heap_setRow_same _ _ cs.toArray vs.toArray _ h.bx, ⟨h.fo.os, h.fo.tape, h.fo.output, (by rw [(sx_setRow _ g vs.toArray).size]; exact h.fo.size), fun k hk hne => (hb k (by omega)).trans (h.fo.block k hk hne)⟩, h.hr, h.hi, h.hri, h.hg⟩
theorem OwnR.sets {k : Nat} {K : Knd Try.prog (Cls k)} {α : Type} {R : Rz α} {w : World} {N : Nat} {v : Value} {l : List α} (h : OwnR K R w N v l) {b : Nat} (hb : b < N) (o : Nat) (vs : List Value) : OwnR K R (w.setCells b o vs) N v l :=
  h.keep fun i hi _ => sets_far (by omega) vs o w
theorem wpList_store_nm {P : Program} {ops : Array Oper} {rest : List Oper} {op : Oper} {a : Act} {w w2 : World} {Q : Exit → Act → World → Prop} (hgd : op.guard = none) (ty : TypeId) (x y : Operand) (ho : op.op = .store ty x y)
    (b o : Nat) (cells : Array Value) (hx : a.eval x = .pointer (some ⟨b, o, none⟩)) (hy : a.eval y = .agg cells)
    (ht : w.there b o cells.size) (hi : (P.info? ty).map (·.size) = some cells.size) (h1 : cells.all (·.oneCell') = true) (hv : w.setCells b o cells.toList = w2)
    (h : wpList P ops Q rest (a.put op.dst undef) w2) : wpList P ops Q (op :: rest) a w :=
  wpList_store_mid hgd ty x y ho b o cells hx hy ht hi h1 (by rw [hv]; exact h)
/-- The reader, `in` and the thing are laid. -/
theorem four_boxes (w : World) (s : ByteArray) (T : TypeId) (zs : List Value) :
    ES (((w.alloc (.cells zs.toArray T)).alloc (.cells #[.string s, .int .i64 0, .int .i64 0] 93)).alloc (.cells #[.pointer (some ⟨w.heap.size + 1, 0, none⟩)] 95))
      ((((w.alloc (.cells zs.toArray T)).alloc (.cells #[.string s, .int .i64 0, .int .i64 0] 93)).alloc (.cells #[.pointer (some ⟨w.heap.size + 1, 0, none⟩)] 95)).alloc (.cells zs.toArray T))
      (w.heap.size + 1) s (w.heap.size + 1 + 1) (w.heap.size + 1 + 1 + 1) T zs (byt s, 0) ∧
    Bk (((w.alloc (.cells zs.toArray T)).alloc (.cells #[.string s, .int .i64 0, .int .i64 0] 93)).alloc (.cells #[.pointer (some ⟨w.heap.size + 1, 0, none⟩)] 95)) w.heap.size T zs ∧
    Below w.heap.size w (((w.alloc (.cells zs.toArray T)).alloc (.cells #[.string s, .int .i64 0, .int .i64 0] 93)).alloc (.cells #[.pointer (some ⟨w.heap.size + 1, 0, none⟩)] 95)) ∧
    (((w.alloc (.cells zs.toArray T)).alloc (.cells #[.string s, .int .i64 0, .int .i64 0] 93)).alloc (.cells #[.pointer (some ⟨w.heap.size + 1, 0, none⟩)] 95)).heap.size = w.heap.size + 1 + 1 + 1 := by
  have b1 : Below w.heap.size w (w.alloc (.cells zs.toArray T)) := (Below.refl _ _).alloc (Nat.le_refl _) _
  have b2 := b1.alloc b1.size (.cells #[.string s, .int .i64 0, .int .i64 0] 93)
  have b3 := b2.alloc b2.size (.cells #[.pointer (some ⟨w.heap.size + 1, 0, none⟩)] 95)
  have k0 := ((Bk.new w T zs).old (.cells #[.string s, .int .i64 0, .int .i64 0] 93)).old (.cells #[.pointer (some ⟨w.heap.size + 1, 0, none⟩)] 95)
  have k1 := (Bk.new (w.alloc (.cells zs.toArray T)) 93 [.string s, .int .i64 0, .int .i64 0]).old (.cells #[.pointer (some ⟨w.heap.size + 1, 0, none⟩)] 95)
  have k2 := Bk.new ((w.alloc (.cells zs.toArray T)).alloc (.cells #[.string s, .int .i64 0, .int .i64 0] 93)) 95 [.pointer (some ⟨w.heap.size + 1, 0, none⟩)]
  simp only [World.size_alloc] at k1 k2
  have hR : RD (((w.alloc (.cells zs.toArray T)).alloc (.cells #[.string s, .int .i64 0, .int .i64 0] 93)).alloc (.cells #[.pointer (some ⟨w.heap.size + 1, 0, none⟩)] 95)) (w.heap.size + 1) s (byt s, 0) := ⟨0, Nat.zero_le _, fun _ => rfl, k1⟩
  have hS := ES.start hR k2 (by omega) T zs
  simp only [World.size_alloc] at hS
  exact ⟨hS, k0, b3, by simp only [World.size_alloc]⟩
set_option maxRecDepth 100000 in
set_option maxHeartbeats 8000000 in
theorem rofmsg (s : ByteArray) (w : World) (hs : s.size ≤ 1000000000) :
    Calls Try.prog 18 #[.string s] w (GmP (byt s) w) := by
  obtain ⟨n0, s0, g0⟩ : ∃ b t, gNum (byt s, 0) = (b, t) := ⟨_, _, rfl⟩
  obtain ⟨n1, s1, g1⟩ : ∃ b t, gNum s0 = (b, t) := ⟨_, _, rfl⟩
  obtain ⟨n2, s2, g2⟩ : ∃ b t, gNum s1 = (b, t) := ⟨_, _, rfl⟩
  obtain ⟨⟨n3, n4, n5⟩, s3, g3⟩ : ∃ b t, idC.rd s2 = (b, t) := ⟨_, _, rfl⟩
  obtain ⟨⟨n6, n7⟩, s4, g4⟩ : ∃ b t, balC.rd s3 = (b, t) := ⟨_, _, rfl⟩
  obtain ⟨xi, s5, g5⟩ : ∃ b t, inC.rd s4 = (b, t) := ⟨_, _, rfl⟩
  obtain ⟨xn, s6, g6⟩ : ∃ b t, snC.rd s5 = (b, t) := ⟨_, _, rfl⟩
  have hE : msC.rd (byt s, 0) = ((n0, n1, n2, (n3, n4, n5), (n6, n7), xi, xn), s6) := by
    simp only [msC, pairC_rd, numC_rd, g0, g1, g2, g3, g4, g5, g6]
  have HE6 := Lib.hid hE
  have HIv := Lib.hid (msC.inv (byt s) (byt_range s))
  rw [hE] at HIv
  have HBd : Hid (s5.2 ≠ 0 → s6 = s5) := Lib.hid (fun z => by
    have := snC.err s5.1 s5.2 z
    rw [show (s5.1, s5.2) = s5 from rfl, g6] at this
    exact this)
  have G0 := Lib.hid g0
  have G1 := Lib.hid g1
  have G2 := Lib.hid g2
  have G3 := Lib.hid g3
  have G4 := Lib.hid g4
  have G5 := Lib.hid g5
  have G6 := Lib.hid g6
  obtain ⟨hb1, hb2, hb3, hb4⟩ := four_boxes w s 44 [.int .i64 0, .int .i64 0, .int .i64 0, .int .i64 0, .int .i64 0, .int .i64 0, .int .i64 0, .int .i64 0, .int .i64 0, .int .i64 0, .int .i64 0, .int .i64 0, .int .i64 0, .int .i64 0, .int .i64 0, .int .i64 0, .string ⟨#[]⟩, .string ⟨#[]⟩, .int .i64 0, .int .i64 0, .int .i64 0, .int .i64 0, .slice none 0 0, .int .i64 0, .slice none 0 0, .slice none 0 0, .slice none 0 0]
  have HE := Lib.hid hb1
  have HZ1 := Lib.hid hb2
  have HB1 := Lib.hid hb3
  have HS1 := Lib.hid hb4
  have HE0 := Lib.hid (HE.out.setRow [.int .i64 0, .int .i64 0, .int .i64 0, .int .i64 0, .int .i64 0, .int .i64 0, .int .i64 0, .int .i64 0, .int .i64 0, .int .i64 0, .int .i64 0, .int .i64 0, .int .i64 0, .int .i64 0, .int .i64 0, .int .i64 0, .string ⟨#[]⟩, .string ⟨#[]⟩, .int .i64 0, .int .i64 0, .int .i64 0, .int .i64 0, .slice none 0 0, .int .i64 0, .slice none 0 0, .slice none 0 0, .slice none 0 0])
  have HXi0 : Hid ((Try.prog.info? 44).map (·.size) = some 27) := Lib.hid (by kernel_rfl)
  have c0 := HE0.out.ci
  clear hb1 hb2 hb3 hb4 hE g0 g1 g2 g3 g4 g5 g6
  go_enter Try.func18, Try.ntmps18
  go_wp2_with (refine wpList_store_row rfl 44 _ _ rfl (w.heap.size + 1 + 1 + 1) rfl #[.int .i64 0, .int .i64 0, .int .i64 0, .int .i64 0, .int .i64 0, .int .i64 0, .int .i64 0, .int .i64 0, .int .i64 0, .int .i64 0, .int .i64 0, .int .i64 0, .int .i64 0, .int .i64 0, .int .i64 0, .int .i64 0, .string ⟨#[]⟩, .string ⟨#[]⟩, .int .i64 0, .int .i64 0, .int .i64 0, .int .i64 0, .slice none 0 0, .int .i64 0, .slice none 0 0, .slice none 0 0, .slice none 0 0] rfl #[.int .i64 0, .int .i64 0, .int .i64 0, .int .i64 0, .int .i64 0, .int .i64 0, .int .i64 0, .int .i64 0, .int .i64 0, .int .i64 0, .int .i64 0, .int .i64 0, .int .i64 0, .int .i64 0, .int .i64 0, .int .i64 0, .string ⟨#[]⟩, .string ⟨#[]⟩, .int .i64 0, .int .i64 0, .int .i64 0, .int .i64 0, .slice none 0 0, .int .i64 0, .slice none 0 0, .slice none 0 0, .slice none 0 0] 44 HE.out.bx HXi0.out rfl (by rw [← Array.all_toList]; rfl) ?_)
  clear HE
  have HE := HE0
  clear HE0
  refine (inumE (w.heap.size + 1) s _ _ _ _ HE.out.rd hs G0.out).mono ?_
  rintro e u1 ⟨he, h1, h2⟩
  rw [he.out]
  have HJ := Lib.hid (HE.out.call h1 h2)
  have y0 := HJ.out.bx.cell 0
  have z0 := HJ.out.bx.fz 0
  simp only [List.set_cons_zero, List.set_cons_succ, List.getElem?_cons_zero, List.getElem?_cons_succ] at y0
  obtain ⟨v1, hv⟩ : ∃ q, u1.setCell ⟨w.heap.size + 1 + 1 + 1, 0, none⟩ (.int .i64 n0) = q := ⟨_, rfl⟩
  have HK := Lib.hid (HJ.out.set 0 (.int .i64 n0))
  simp only [List.set_cons_zero, List.set_cons_succ] at HK
  rw [hv] at HK
  clear HE HJ c0 he h1 h2
  have c0 := HK.out.ci
  have HE := HK
  clear HK
  generalize (((w.alloc (.cells [.int .i64 0, .int .i64 0, .int .i64 0, .int .i64 0, .int .i64 0, .int .i64 0, .int .i64 0, .int .i64 0, .int .i64 0, .int .i64 0, .int .i64 0, .int .i64 0, .int .i64 0, .int .i64 0, .int .i64 0, .int .i64 0, .string ⟨#[]⟩, .string ⟨#[]⟩, .int .i64 0, .int .i64 0, .int .i64 0, .int .i64 0, .slice none 0 0, .int .i64 0, .slice none 0 0, .slice none 0 0, .slice none 0 0].toArray 44)).alloc (.cells #[.string s, .int .i64 0, .int .i64 0] 93)).alloc (.cells #[.pointer (some ⟨w.heap.size + 1, 0, none⟩)] 95)) = W1 at HE HZ1 HB1 HS1
  go_wp2_with fail
  clear hv y0 z0
  refine (inumE (w.heap.size + 1) s _ _ _ _ HE.out.rd hs G1.out).mono ?_
  rintro e u2 ⟨he, h1, h2⟩
  rw [he.out]
  have HJ := Lib.hid (HE.out.call h1 h2)
  have y0 := HJ.out.bx.cell 1
  have z0 := HJ.out.bx.fz 1
  simp only [List.set_cons_zero, List.set_cons_succ, List.getElem?_cons_zero, List.getElem?_cons_succ] at y0
  obtain ⟨v2, hv⟩ : ∃ q, u2.setCell ⟨w.heap.size + 1 + 1 + 1, 1, none⟩ (.int .i64 n1) = q := ⟨_, rfl⟩
  have HK := Lib.hid (HJ.out.set 1 (.int .i64 n1))
  simp only [List.set_cons_zero, List.set_cons_succ] at HK
  rw [hv] at HK
  clear HE HJ c0 he h1 h2
  have c0 := HK.out.ci
  have HE := HK
  clear HK
  go_wp2_with fail
  clear hv y0 z0
  refine (inumE (w.heap.size + 1) s _ _ _ _ HE.out.rd hs G2.out).mono ?_
  rintro e u3 ⟨he, h1, h2⟩
  rw [he.out]
  have HJ := Lib.hid (HE.out.call h1 h2)
  have y0 := HJ.out.bx.cell 2
  have z0 := HJ.out.bx.fz 2
  simp only [List.set_cons_zero, List.set_cons_succ, List.getElem?_cons_zero, List.getElem?_cons_succ] at y0
  obtain ⟨v3, hv⟩ : ∃ q, u3.setCell ⟨w.heap.size + 1 + 1 + 1, 2, none⟩ (.int .i64 n2) = q := ⟨_, rfl⟩
  have HK := Lib.hid (HJ.out.set 2 (.int .i64 n2))
  simp only [List.set_cons_zero, List.set_cons_succ] at HK
  rw [hv] at HK
  clear HE HJ c0 he h1 h2
  have c0 := HK.out.ci
  have HE := HK
  clear HK
  go_wp2_with fail
  clear hv y0 z0
  refine (iid (w.heap.size + 1) s _ _ n3 n4 n5 _ HE.out.rd hs G3.out).mono ?_
  rintro e u4 ⟨he, h1, h2⟩
  rw [he.out]
  have HJ := Lib.hid (HE.out.call h1 h2)
  have HTh := Lib.hid (HJ.out.bx.there 3 3 (Nat.le_of_ble_eq_true rfl))
  obtain ⟨v4, hv⟩ : ∃ q, u4.setCells (w.heap.size + 1 + 1 + 1) 3 [.int .i64 n3, .int .i64 n4, .int .i64 n5] = q := ⟨_, rfl⟩
  have HK := Lib.hid (HJ.out.sets 3 [.int .i64 n3, .int .i64 n4, .int .i64 n5])
  simp only [splice, List.set_cons_zero, List.set_cons_succ] at HK
  rw [hv] at HK
  have HV := Lib.hid hv
  clear hv
  clear HE HJ c0 he h1 h2
  have c0 := HK.out.ci
  have HE := HK
  clear HK
  go_wp2_with (refine wpList_store_nm rfl 24 _ _ rfl (w.heap.size + 1 + 1 + 1) 3 #[.int .i64 n3, .int .i64 n4, .int .i64 n5] rfl rfl HTh.out (by kernel_rfl) (by rw [← Array.all_toList]; rfl) HV.out ?_)
  clear HV HTh
  refine (ibal (w.heap.size + 1) s _ _ n6 n7 _ HE.out.rd hs G4.out).mono ?_
  rintro e u5 ⟨he, h1, h2⟩
  rw [he.out]
  have HJ := Lib.hid (HE.out.call h1 h2)
  have HTh := Lib.hid (HJ.out.bx.there 6 2 (Nat.le_of_ble_eq_true rfl))
  obtain ⟨v5, hv⟩ : ∃ q, u5.setCells (w.heap.size + 1 + 1 + 1) 6 [.int .i64 n6, .int .i64 n7] = q := ⟨_, rfl⟩
  have HK := Lib.hid (HJ.out.sets 6 [.int .i64 n6, .int .i64 n7])
  simp only [splice, List.set_cons_zero, List.set_cons_succ] at HK
  rw [hv] at HK
  have HV := Lib.hid hv
  clear hv
  clear HE HJ c0 he h1 h2
  have c0 := HK.out.ci
  have HE := HK
  clear HK
  go_wp2_with (refine wpList_store_nm rfl 26 _ _ rfl (w.heap.size + 1 + 1 + 1) 6 #[.int .i64 n6, .int .i64 n7] rfl rfl HTh.out (by kernel_rfl) (by rw [← Array.all_toList]; rfl) HV.out ?_)
  clear HV HTh
  refine (iinst (w.heap.size + 1) s s4 _ HE.out.rd hs).mono ?_
  rintro e u6 ⟨⟨m8, ⟨m9, m10⟩, ⟨m11, m12⟩, ⟨m13, m14, m15, m16, m17, m18, m19, m20⟩, m21, l22⟩, a22, d22, f22, he, hr22, hy, h1, h2⟩
  rw [he.out]
  rw [G5.out] at hy h1
  have HYI := Lib.hid hy
  have HR22 := Lib.hid hr22
  obtain ⟨q22, hq22⟩ : ∃ q, q = v5.heap.size := ⟨_, rfl⟩
  rw [← hq22] at HR22
  have HR22b : Hid (w.heap.size + 1 + 1 + 1 < q22) := Lib.hid (by have := HE.out.sz; omega)
  clear hy hr22 hq22
  have HJ := Lib.hid (HE.out.call h1 h2)
  have HTh := Lib.hid (HJ.out.bx.there 8 15 (Nat.le_of_ble_eq_true rfl))
  obtain ⟨v6, hv⟩ : ∃ q, u6.setCells (w.heap.size + 1 + 1 + 1) 8 [.int .i64 m8, .int .i64 m9, .int .i64 m10, .int .i64 m11, .int .i64 m12, .int .i64 m13, .int .i64 m14, .int .i64 m15, .string m16, .string m17, .int .i64 m18, .int .i64 m19, .int .i64 m20, .int .i64 m21, .slice a22 d22 f22] = q := ⟨_, rfl⟩
  have HK := Lib.hid (HJ.out.sets 8 [.int .i64 m8, .int .i64 m9, .int .i64 m10, .int .i64 m11, .int .i64 m12, .int .i64 m13, .int .i64 m14, .int .i64 m15, .string m16, .string m17, .int .i64 m18, .int .i64 m19, .int .i64 m20, .int .i64 m21, .slice a22 d22 f22])
  simp only [splice, List.set_cons_zero, List.set_cons_succ] at HK
  rw [hv] at HK
  have HV := Lib.hid hv
  clear hv
  clear HE HJ c0 he h1 h2
  have c0 := HK.out.ci
  have HE := HK
  clear HK
  have HR22x := Lib.hid (HR22.out.sets (b := w.heap.size + 1 + 1 + 1) (by have := HR22b.out; omega) 8 [.int .i64 m8, .int .i64 m9, .int .i64 m10, .int .i64 m11, .int .i64 m12, .int .i64 m13, .int .i64 m14, .int .i64 m15, .string m16, .string m17, .int .i64 m18, .int .i64 m19, .int .i64 m20, .int .i64 m21, .slice a22 d22 f22])
  rw [HV.out] at HR22x
  clear HR22
  have HR22 := HR22x
  clear HR22x
  go_wp2_with (refine wpList_store_nm rfl 35 _ _ rfl (w.heap.size + 1 + 1 + 1) 8 #[.int .i64 m8, .int .i64 m9, .int .i64 m10, .int .i64 m11, .int .i64 m12, .int .i64 m13, .int .i64 m14, .int .i64 m15, .string m16, .string m17, .int .i64 m18, .int .i64 m19, .int .i64 m20, .int .i64 m21, .slice a22 d22 f22] rfl rfl HTh.out (by kernel_rfl) (by rw [← Array.all_toList]; rfl) HV.out ?_)
  clear HV HTh
  refine (isnap (w.heap.size + 1) s s5 _ HE.out.rd hs).mono ?_
  rintro e u7 ⟨⟨⟨m23, l24⟩, l25, l26⟩, a24, d24, f24, a25, d25, f25, a26, d26, f26, he, hr24, hr25, hr26, hy, h1, h2⟩
  rw [he.out]
  rw [G6.out] at hy h1
  have HYS := Lib.hid hy
  have HR24 := Lib.hid hr24
  have HR25 := Lib.hid hr25
  have HR26 := Lib.hid hr26
  obtain ⟨q24, hq24⟩ : ∃ q, q = v6.heap.size := ⟨_, rfl⟩
  rw [← hq24] at HR24 HR25 HR26
  have HR24b : Hid (w.heap.size + 1 + 1 + 1 < q24) := Lib.hid (by have := HE.out.sz; omega)
  clear hy hr24 hr25 hr26 hq24
  have HJ := Lib.hid (HE.out.call h1 h2)
  have HR22x := Lib.hid (HR22.out.fo h2 (by have := HR22b.out; omega))
  clear HR22
  have HR22 := HR22x
  clear HR22x
  have HTh := Lib.hid (HJ.out.bx.there 23 4 (Nat.le_of_ble_eq_true rfl))
  obtain ⟨v7, hv⟩ : ∃ q, u7.setCells (w.heap.size + 1 + 1 + 1) 23 [.int .i64 m23, .slice a24 d24 f24, .slice a25 d25 f25, .slice a26 d26 f26] = q := ⟨_, rfl⟩
  have HK := Lib.hid (HJ.out.sets 23 [.int .i64 m23, .slice a24 d24 f24, .slice a25 d25 f25, .slice a26 d26 f26])
  simp only [splice, List.set_cons_zero, List.set_cons_succ] at HK
  rw [hv] at HK
  have HR22x := Lib.hid (HR22.out.sets (b := w.heap.size + 1 + 1 + 1) (by have := HR22b.out; omega) 23 [.int .i64 m23, .slice a24 d24 f24, .slice a25 d25 f25, .slice a26 d26 f26])
  rw [hv] at HR22x
  clear HR22
  have HR22 := HR22x
  clear HR22x
  have HV := Lib.hid hv
  clear hv
  clear HE HJ c0 he h1 h2
  have c0 := HK.out.ci
  have HE := HK
  clear HK
  have HR24x := Lib.hid (HR24.out.sets (b := w.heap.size + 1 + 1 + 1) (by have := HR24b.out; omega) 23 [.int .i64 m23, .slice a24 d24 f24, .slice a25 d25 f25, .slice a26 d26 f26])
  rw [HV.out] at HR24x
  clear HR24
  have HR24 := HR24x
  clear HR24x
  have HR25x := Lib.hid (HR25.out.sets (b := w.heap.size + 1 + 1 + 1) (by have := HR24b.out; omega) 23 [.int .i64 m23, .slice a24 d24 f24, .slice a25 d25 f25, .slice a26 d26 f26])
  rw [HV.out] at HR25x
  clear HR25
  have HR25 := HR25x
  clear HR25x
  have HR26x := Lib.hid (HR26.out.sets (b := w.heap.size + 1 + 1 + 1) (by have := HR24b.out; omega) 23 [.int .i64 m23, .slice a24 d24 f24, .slice a25 d25 f25, .slice a26 d26 f26])
  rw [HV.out] at HR26x
  clear HR26
  have HR26 := HR26x
  clear HR26x
  go_wp2_with (refine wpList_store_nm rfl 42 _ _ rfl (w.heap.size + 1 + 1 + 1) 23 #[.int .i64 m23, .slice a24 d24 f24, .slice a25 d25 f25, .slice a26 d26 f26] rfl rfl HTh.out (by kernel_rfl) (by rw [← Array.all_toList]; rfl) HV.out ?_)
  clear HV HTh
  refine (dend (w.heap.size + 1) s _ _ HE.out.rd).mono ?_
  rintro e wx ⟨he, h1⟩
  rw [he.out]
  have HXr := Lib.hid (HE.out.bx.below h1)
  have HZr := Lib.hid ((HZ1.out.fo HE.out.fo (by omega)).below h1)
  have hv7 := HE.out.fo.size
  have hBx : Below w.heap.size w wx := by
    have f := HE.out.fo
    have b := HB1.out
    exact ⟨h1.os.trans (f.os.trans b.os), h1.tape.trans (f.tape.trans b.tape), h1.output.trans (f.output.trans b.output), Nat.le_trans b.size (Nat.le_trans f.size h1.size), fun k hk => (h1.block k (by have := b.size; omega)).trans ((f.block k (by have := b.size; omega) (by omega)).trans (b.block k hk))⟩
  have HBx := Lib.hid hBx
  have HRx := Lib.hid h1
  clear he h1 hBx c0 hv7
  have HXi : Hid ((Try.prog.info? 44).map (·.size) = some 27) := Lib.hid (by kernel_rfl)
  obtain ⟨er, her⟩ : ∃ er, endE s6 = er := ⟨_, rfl⟩
  have HEr := Lib.hid her
  rw [her]
  clear her
  by_cases q : er = 0
  · subst q
    have hEn := endE_ok HEr.out
    have HEn := Lib.hid hEn
    have HLv := Lib.hid (run_loadVar_row (wx.setRow w.heap.size #[.int .i64 n0, .int .i64 n1, .int .i64 n2, .int .i64 n3, .int .i64 n4, .int .i64 n5, .int .i64 n6, .int .i64 n7, .int .i64 m8, .int .i64 m9, .int .i64 m10, .int .i64 m11, .int .i64 m12, .int .i64 m13, .int .i64 m14, .int .i64 m15, .string m16, .string m17, .int .i64 m18, .int .i64 m19, .int .i64 m20, .int .i64 m21, .slice a22 d22 f22, .int .i64 m23, .slice a24 d24 f24, .slice a25 d25 f25, .slice a26 d26 f26]) _ _ _ #[.int .i64 n0, .int .i64 n1, .int .i64 n2, .int .i64 n3, .int .i64 n4, .int .i64 n5, .int .i64 n6, .int .i64 n7, .int .i64 m8, .int .i64 m9, .int .i64 m10, .int .i64 m11, .int .i64 m12, .int .i64 m13, .int .i64 m14, .int .i64 m15, .string m16, .string m17, .int .i64 m18, .int .i64 m19, .int .i64 m20, .int .i64 m21, .slice a22 d22 f22, .int .i64 m23, .slice a24 d24 f24, .slice a25 d25 f25, .slice a26 d26 f26] (0, 0) _ (heap_setRow_same _ _ #[.int .i64 0, .int .i64 0, .int .i64 0, .int .i64 0, .int .i64 0, .int .i64 0, .int .i64 0, .int .i64 0, .int .i64 0, .int .i64 0, .int .i64 0, .int .i64 0, .int .i64 0, .int .i64 0, .int .i64 0, .int .i64 0, .string ⟨#[]⟩, .string ⟨#[]⟩, .int .i64 0, .int .i64 0, .int .i64 0, .int .i64 0, .slice none 0 0, .int .i64 0, .slice none 0 0, .slice none 0 0, .slice none 0 0] #[.int .i64 n0, .int .i64 n1, .int .i64 n2, .int .i64 n3, .int .i64 n4, .int .i64 n5, .int .i64 n6, .int .i64 n7, .int .i64 m8, .int .i64 m9, .int .i64 m10, .int .i64 m11, .int .i64 m12, .int .i64 m13, .int .i64 m14, .int .i64 m15, .string m16, .string m17, .int .i64 m18, .int .i64 m19, .int .i64 m20, .int .i64 m21, .slice a22 d22 f22, .int .i64 m23, .slice a24 d24 f24, .slice a25 d25 f25, .slice a26 d26 f26] _ HZr.out) Try.underlying44 rfl HXi.out)
    have HBf := Lib.hid (below_setRow HBx.out (Nat.le_refl _) #[.int .i64 n0, .int .i64 n1, .int .i64 n2, .int .i64 n3, .int .i64 n4, .int .i64 n5, .int .i64 n6, .int .i64 n7, .int .i64 m8, .int .i64 m9, .int .i64 m10, .int .i64 m11, .int .i64 m12, .int .i64 m13, .int .i64 m14, .int .i64 m15, .string m16, .string m17, .int .i64 m18, .int .i64 m19, .int .i64 m20, .int .i64 m21, .slice a22 d22 f22, .int .i64 m23, .slice a24 d24 f24, .slice a25 d25 f25, .slice a26 d26 f26])
    have HMf : Hid (∀ w'' : World, (∀ k, w.heap.size ≤ k → k < (wx.setRow w.heap.size #[.int .i64 n0, .int .i64 n1, .int .i64 n2, .int .i64 n3, .int .i64 n4, .int .i64 n5, .int .i64 n6, .int .i64 n7, .int .i64 m8, .int .i64 m9, .int .i64 m10, .int .i64 m11, .int .i64 m12, .int .i64 m13, .int .i64 m14, .int .i64 m15, .string m16, .string m17, .int .i64 m18, .int .i64 m19, .int .i64 m20, .int .i64 m21, .slice a22 d22 f22, .int .i64 m23, .slice a24 d24 f24, .slice a25 d25 f25, .slice a26 d26 f26]).heap.size → w''.heap[k]? = (wx.setRow w.heap.size #[.int .i64 n0, .int .i64 n1, .int .i64 n2, .int .i64 n3, .int .i64 n4, .int .i64 n5, .int .i64 n6, .int .i64 n7, .int .i64 m8, .int .i64 m9, .int .i64 m10, .int .i64 m11, .int .i64 m12, .int .i64 m13, .int .i64 m14, .int .i64 m15, .string m16, .string m17, .int .i64 m18, .int .i64 m19, .int .i64 m20, .int .i64 m21, .slice a22 d22 f22, .int .i64 m23, .slice a24 d24 f24, .slice a25 d25 f25, .slice a26 d26 f26]).heap[k]?) → MsgIs w'' (.agg #[.int .i64 n0, .int .i64 n1, .int .i64 n2, .int .i64 n3, .int .i64 n4, .int .i64 n5, .int .i64 n6, .int .i64 n7, .int .i64 m8, .int .i64 m9, .int .i64 m10, .int .i64 m11, .int .i64 m12, .int .i64 m13, .int .i64 m14, .int .i64 m15, .string m16, .string m17, .int .i64 m18, .int .i64 m19, .int .i64 m20, .int .i64 m21, .slice a22 d22 f22, .int .i64 m23, .slice a24 d24 f24, .slice a25 d25 f25, .slice a26 d26 f26]) (n0, n1, n2, (n3, n4, n5), (n6, n7), xi, xn)) := Lib.hid (fun w'' hw'' => by
    have z6 : s6.2 = 0 := HEn.out.1
    have z5 : s5.2 = 0 := Classical.byContradiction fun q => q (by rw [← HBd.out q]; exact z6)
    have ei := HYI.out z5
    have en := HYS.out z6
    have ho := (HIv.out z6).1
    rw [← ei, ← en] at ho
    have hk' : ∀ (N : Nat) (T : TypeId) (k : Nat), w.heap.size < N → N ≤ k → (Ty wx k 9 ∨ Ty wx k T) → w''.heap[k]? = wx.heap[k]? := fun N T k hN h hq => (hw'' k (by omega) (by rw [(sx_setRow _ w.heap.size _).size]; rcases hq with ⟨cs, fr, q⟩ | ⟨cs, fr, q⟩ <;> exact (Array.getElem?_eq_some_iff.1 q).1)).trans ((sx_setRow _ w.heap.size _).block k (by omega))
    have h22 := (HR22.out.under HRx.out).keep (fun k => hk' _ _ k (by have := HR22b.out; have := HS1.out; omega))
    have h24 := (HR24.out.under HRx.out).keep (fun k => hk' _ _ k (by have := HR24b.out; have := HS1.out; omega))
    have h25 := (HR25.out.under HRx.out).keep (fun k => hk' _ _ k (by have := HR24b.out; have := HS1.out; omega))
    have h26 := (HR26.out.under HRx.out).keep (fun k => hk' _ _ k (by have := HR24b.out; have := HS1.out; omega))
    simp only [msC, inC, atC, cmC, snC, cfC, pairC_fs, oks_app] at ho
    obtain ⟨_, _, _, _, _, ⟨_, _, _, ⟨_, _, _, t16, t17, _, _, _⟩, _, o22⟩, ⟨_, o24⟩, o25, o26⟩ := ho
    obtain ⟨rs22, g22⟩ := OwnR.row (S := idS) h22 (fun cs x _ hq => hq)
    obtain ⟨rs24, g24⟩ := OwnR.row (S := numS) h24 (fun cs x _ hq => hq)
    obtain ⟨rs25, g25⟩ := OwnR.row (S := enS) h25 (fun cs x hx hq => en_row hq (oks_flat o25 x hx))
    obtain ⟨rs26, g26⟩ := OwnR.row (S := seS) h26 (fun cs x hx hq => se_row hq (oks_flat o26 x hx))
    rw [← ei, ← en]
    exact ⟨_, rfl, ms_mk (x := (n0, n1, n2, (n3, n4, n5), (n6, n7), (m8, (m9, m10), (m11, m12), (m13, m14, m15, m16, m17, m18, m19, m20), m21, l22), (m23, l24), l25, l26)) (tx_max t16) (tx_max t17) g22 g24 g25 g26⟩)
    clear hEn
    go_wp2_with (first | (refine wpList_load_row rfl _ _ rfl (w.heap.size + 1 + 1 + 1) rfl 44 #[.int .i64 n0, .int .i64 n1, .int .i64 n2, .int .i64 n3, .int .i64 n4, .int .i64 n5, .int .i64 n6, .int .i64 n7, .int .i64 m8, .int .i64 m9, .int .i64 m10, .int .i64 m11, .int .i64 m12, .int .i64 m13, .int .i64 m14, .int .i64 m15, .string m16, .string m17, .int .i64 m18, .int .i64 m19, .int .i64 m20, .int .i64 m21, .slice a22 d22 f22, .int .i64 m23, .slice a24 d24 f24, .slice a25 d25 f25, .slice a26 d26 f26] (0, 0) _ HXr.out Try.underlying44 rfl HXi.out ?_) | (refine wpList_store_row rfl 44 _ _ rfl w.heap.size rfl #[.int .i64 n0, .int .i64 n1, .int .i64 n2, .int .i64 n3, .int .i64 n4, .int .i64 n5, .int .i64 n6, .int .i64 n7, .int .i64 m8, .int .i64 m9, .int .i64 m10, .int .i64 m11, .int .i64 m12, .int .i64 m13, .int .i64 m14, .int .i64 m15, .string m16, .string m17, .int .i64 m18, .int .i64 m19, .int .i64 m20, .int .i64 m21, .slice a22 d22 f22, .int .i64 m23, .slice a24 d24 f24, .slice a25 d25 f25, .slice a26 d26 f26] rfl #[.int .i64 0, .int .i64 0, .int .i64 0, .int .i64 0, .int .i64 0, .int .i64 0, .int .i64 0, .int .i64 0, .int .i64 0, .int .i64 0, .int .i64 0, .int .i64 0, .int .i64 0, .int .i64 0, .int .i64 0, .int .i64 0, .string ⟨#[]⟩, .string ⟨#[]⟩, .int .i64 0, .int .i64 0, .int .i64 0, .int .i64 0, .slice none 0 0, .int .i64 0, .slice none 0 0, .slice none 0 0, .slice none 0 0] 44 HZr.out HXi.out rfl (by rw [← Array.all_toList]; rfl) ?_))
    have hlv := HLv.out
    exact bodyPost_ret (v := .tuple #[.agg #[.int .i64 n0, .int .i64 n1, .int .i64 n2, .int .i64 n3, .int .i64 n4, .int .i64 n5, .int .i64 n6, .int .i64 n7, .int .i64 m8, .int .i64 m9, .int .i64 m10, .int .i64 m11, .int .i64 m12, .int .i64 m13, .int .i64 m14, .int .i64 m15, .string m16, .string m17, .int .i64 m18, .int .i64 m19, .int .i64 m20, .int .i64 m21, .slice a22 d22 f22, .int .i64 m23, .slice a24 d24 f24, .slice a25 d25 f25, .slice a26 d26 f26], .int .i64 0]) (by simp [results, Try.results18, asAddr, Act.put, hlv]) rfl (by unfold GmP; rw [HE6.out]; exact ⟨_, Lib.hid (by rw [HEr.out]), HBf.out, .inl ⟨HEr.out, HMf.out⟩⟩)
  · have q1 : (er == 0) = false := by simpa using q
    have q2 : (er != 0) = true := by simpa using q
    have HQ := Lib.hid q
    have HLv := Lib.hid (run_loadVar_row (wx.setRow w.heap.size #[.int .i64 0, .int .i64 0, .int .i64 0, .int .i64 0, .int .i64 0, .int .i64 0, .int .i64 0, .int .i64 0, .int .i64 0, .int .i64 0, .int .i64 0, .int .i64 0, .int .i64 0, .int .i64 0, .int .i64 0, .int .i64 0, .string ⟨#[]⟩, .string ⟨#[]⟩, .int .i64 0, .int .i64 0, .int .i64 0, .int .i64 0, .slice none 0 0, .int .i64 0, .slice none 0 0, .slice none 0 0, .slice none 0 0]) _ _ _ #[.int .i64 0, .int .i64 0, .int .i64 0, .int .i64 0, .int .i64 0, .int .i64 0, .int .i64 0, .int .i64 0, .int .i64 0, .int .i64 0, .int .i64 0, .int .i64 0, .int .i64 0, .int .i64 0, .int .i64 0, .int .i64 0, .string ⟨#[]⟩, .string ⟨#[]⟩, .int .i64 0, .int .i64 0, .int .i64 0, .int .i64 0, .slice none 0 0, .int .i64 0, .slice none 0 0, .slice none 0 0, .slice none 0 0] (0, 0) _ (heap_setRow_same _ _ #[.int .i64 0, .int .i64 0, .int .i64 0, .int .i64 0, .int .i64 0, .int .i64 0, .int .i64 0, .int .i64 0, .int .i64 0, .int .i64 0, .int .i64 0, .int .i64 0, .int .i64 0, .int .i64 0, .int .i64 0, .int .i64 0, .string ⟨#[]⟩, .string ⟨#[]⟩, .int .i64 0, .int .i64 0, .int .i64 0, .int .i64 0, .slice none 0 0, .int .i64 0, .slice none 0 0, .slice none 0 0, .slice none 0 0] #[.int .i64 0, .int .i64 0, .int .i64 0, .int .i64 0, .int .i64 0, .int .i64 0, .int .i64 0, .int .i64 0, .int .i64 0, .int .i64 0, .int .i64 0, .int .i64 0, .int .i64 0, .int .i64 0, .int .i64 0, .int .i64 0, .string ⟨#[]⟩, .string ⟨#[]⟩, .int .i64 0, .int .i64 0, .int .i64 0, .int .i64 0, .slice none 0 0, .int .i64 0, .slice none 0 0, .slice none 0 0, .slice none 0 0] _ HZr.out) Try.underlying44 rfl HXi.out)
    have HBf := Lib.hid (below_setRow HBx.out (Nat.le_refl _) #[.int .i64 0, .int .i64 0, .int .i64 0, .int .i64 0, .int .i64 0, .int .i64 0, .int .i64 0, .int .i64 0, .int .i64 0, .int .i64 0, .int .i64 0, .int .i64 0, .int .i64 0, .int .i64 0, .int .i64 0, .int .i64 0, .string ⟨#[]⟩, .string ⟨#[]⟩, .int .i64 0, .int .i64 0, .int .i64 0, .int .i64 0, .slice none 0 0, .int .i64 0, .slice none 0 0, .slice none 0 0, .slice none 0 0])
    clear q
    go_wp2_with (refine wpList_store_row rfl 44 _ _ rfl w.heap.size rfl #[.int .i64 0, .int .i64 0, .int .i64 0, .int .i64 0, .int .i64 0, .int .i64 0, .int .i64 0, .int .i64 0, .int .i64 0, .int .i64 0, .int .i64 0, .int .i64 0, .int .i64 0, .int .i64 0, .int .i64 0, .int .i64 0, .string ⟨#[]⟩, .string ⟨#[]⟩, .int .i64 0, .int .i64 0, .int .i64 0, .int .i64 0, .slice none 0 0, .int .i64 0, .slice none 0 0, .slice none 0 0, .slice none 0 0] rfl #[.int .i64 0, .int .i64 0, .int .i64 0, .int .i64 0, .int .i64 0, .int .i64 0, .int .i64 0, .int .i64 0, .int .i64 0, .int .i64 0, .int .i64 0, .int .i64 0, .int .i64 0, .int .i64 0, .int .i64 0, .int .i64 0, .string ⟨#[]⟩, .string ⟨#[]⟩, .int .i64 0, .int .i64 0, .int .i64 0, .int .i64 0, .slice none 0 0, .int .i64 0, .slice none 0 0, .slice none 0 0, .slice none 0 0] 44 HZr.out HXi.out rfl (by rw [← Array.all_toList]; rfl) ?_)
    have hlv := HLv.out
    exact bodyPost_ret (v := .tuple #[.agg #[.int .i64 0, .int .i64 0, .int .i64 0, .int .i64 0, .int .i64 0, .int .i64 0, .int .i64 0, .int .i64 0, .int .i64 0, .int .i64 0, .int .i64 0, .int .i64 0, .int .i64 0, .int .i64 0, .int .i64 0, .int .i64 0, .string ⟨#[]⟩, .string ⟨#[]⟩, .int .i64 0, .int .i64 0, .int .i64 0, .int .i64 0, .slice none 0 0, .int .i64 0, .slice none 0 0, .slice none 0 0, .slice none 0 0], .int .i64 er]) (by simp [results, Try.results18, asAddr, Act.put, hlv]) rfl (by unfold GmP; rw [HE6.out]; exact ⟨.agg z27, Lib.hid (by rw [HEr.out]; rfl), HBf.out, .inr ⟨by rw [HEr.out]; exact HQ.out, rfl⟩⟩)
end Go.Proofs.Ytllcmapgigfgoaa
namespace Go.Proofs.Ytllcmapgigfgoaa
open Go.RowKit
set_option linter.unusedSimpArgs false
set_option linter.unusedVariables false

set_option maxRecDepth 100000 in
set_option maxHeartbeats 8000000 in
theorem rget_a (s : ByteArray) (w : World) (hs : s.size ≤ 1000000000) (s0 : RSt) (g0 : gNum (byt s, 0) = (0, s0)) (hq : s0.2 = 0) :
    Calls Try.prog 20 #[.string s] w (GrG (byt s) w) := by
  obtain ⟨x0, e0⟩ := s0
  simp only at hq
  subst hq
  obtain ⟨⟨n1, n2, n3⟩, s1, g1⟩ : ∃ b t, idC.rd (x0, 0) = (b, t) := ⟨_, _, rfl⟩
  obtain ⟨xi, s2, g2⟩ : ∃ b t, inC.rd s1 = (b, t) := ⟨_, _, rfl⟩
  have hE : rcRd (byt s, 0) = ((false, (n1, n2, n3), xi, zSnp), s2) := by
    unfold rcRd rc0Rd
    rw [g0]
    simp only [g1, g2, if_true]
  have HE6 := Lib.hid hE
  have HIv := Lib.hid (rc_inv (byt s) (byt_range s))
  rw [hE] at HIv
  have G0 := Lib.hid g0
  have G1 := Lib.hid g1
  have G2 := Lib.hid g2
  obtain ⟨hb1, hb2, hb3, hb4⟩ := four_boxes w s 57 [.bool false, .int .i64 0, .int .i64 0, .int .i64 0, .int .i64 0, .int .i64 0, .int .i64 0, .int .i64 0, .int .i64 0, .int .i64 0, .int .i64 0, .int .i64 0, .string ⟨#[]⟩, .string ⟨#[]⟩, .int .i64 0, .int .i64 0, .int .i64 0, .int .i64 0, .slice none 0 0, .int .i64 0, .slice none 0 0, .slice none 0 0, .slice none 0 0]
  have HE := Lib.hid hb1
  have HZ1 := Lib.hid hb2
  have HB1 := Lib.hid hb3
  have HS1 := Lib.hid hb4
  have HE0 := Lib.hid (HE.out.setRow [.bool false, .int .i64 0, .int .i64 0, .int .i64 0, .int .i64 0, .int .i64 0, .int .i64 0, .int .i64 0, .int .i64 0, .int .i64 0, .int .i64 0, .int .i64 0, .string ⟨#[]⟩, .string ⟨#[]⟩, .int .i64 0, .int .i64 0, .int .i64 0, .int .i64 0, .slice none 0 0, .int .i64 0, .slice none 0 0, .slice none 0 0, .slice none 0 0])
  have HXi0 : Hid ((Try.prog.info? 57).map (·.size) = some 23) := Lib.hid (by kernel_rfl)
  have c0 := HE0.out.ci
  clear hb1 hb2 hb3 hb4 hE g0 g1 g2
  go_enter Try.func20, Try.ntmps20
  go_wp2_with (refine wpList_store_row rfl 57 _ _ rfl (w.heap.size + 1 + 1 + 1) rfl #[.bool false, .int .i64 0, .int .i64 0, .int .i64 0, .int .i64 0, .int .i64 0, .int .i64 0, .int .i64 0, .int .i64 0, .int .i64 0, .int .i64 0, .int .i64 0, .string ⟨#[]⟩, .string ⟨#[]⟩, .int .i64 0, .int .i64 0, .int .i64 0, .int .i64 0, .slice none 0 0, .int .i64 0, .slice none 0 0, .slice none 0 0, .slice none 0 0] rfl #[.bool false, .int .i64 0, .int .i64 0, .int .i64 0, .int .i64 0, .int .i64 0, .int .i64 0, .int .i64 0, .int .i64 0, .int .i64 0, .int .i64 0, .int .i64 0, .string ⟨#[]⟩, .string ⟨#[]⟩, .int .i64 0, .int .i64 0, .int .i64 0, .int .i64 0, .slice none 0 0, .int .i64 0, .slice none 0 0, .slice none 0 0, .slice none 0 0] 57 HE.out.bx HXi0.out rfl (by rw [← Array.all_toList]; rfl) ?_)
  clear HE
  have HE := HE0
  clear HE0
  refine (inumE (w.heap.size + 1) s _ _ _ _ HE.out.rd hs G0.out).mono ?_
  rintro e u1 ⟨he, h1, h2⟩
  rw [he.out]
  have HJ := Lib.hid (HE.out.call h1 h2)
  have ce := HJ.out.ce
  simp only at ce
  have HK := HJ
  clear HE HJ c0 he h1 h2
  have c0 := HK.out.ci
  have HE := HK
  clear HK
  generalize (((w.alloc (.cells [.bool false, .int .i64 0, .int .i64 0, .int .i64 0, .int .i64 0, .int .i64 0, .int .i64 0, .int .i64 0, .int .i64 0, .int .i64 0, .int .i64 0, .int .i64 0, .string ⟨#[]⟩, .string ⟨#[]⟩, .int .i64 0, .int .i64 0, .int .i64 0, .int .i64 0, .slice none 0 0, .int .i64 0, .slice none 0 0, .slice none 0 0, .slice none 0 0].toArray 57)).alloc (.cells #[.string s, .int .i64 0, .int .i64 0] 93)).alloc (.cells #[.pointer (some ⟨w.heap.size + 1, 0, none⟩)] 95)) = W1 at HE HZ1 HB1 HS1
  go_wp2_with fail
  clear ce
  refine (iid (w.heap.size + 1) s _ _ n1 n2 n3 _ HE.out.rd hs G1.out).mono ?_
  rintro e u2 ⟨he, h1, h2⟩
  rw [he.out]
  have HJ := Lib.hid (HE.out.call h1 h2)
  have HTh := Lib.hid (HJ.out.bx.there 1 3 (Nat.le_of_ble_eq_true rfl))
  obtain ⟨v2, hv⟩ : ∃ q, u2.setCells (w.heap.size + 1 + 1 + 1) 1 [.int .i64 n1, .int .i64 n2, .int .i64 n3] = q := ⟨_, rfl⟩
  have HK := Lib.hid (HJ.out.sets 1 [.int .i64 n1, .int .i64 n2, .int .i64 n3])
  simp only [splice, List.set_cons_zero, List.set_cons_succ] at HK
  rw [hv] at HK
  have HV := Lib.hid hv
  clear hv
  clear HE HJ c0 he h1 h2
  have c0 := HK.out.ci
  have HE := HK
  clear HK
  go_wp2_with (refine wpList_store_nm rfl 24 _ _ rfl (w.heap.size + 1 + 1 + 1) 1 #[.int .i64 n1, .int .i64 n2, .int .i64 n3] rfl rfl HTh.out (by kernel_rfl) (by rw [← Array.all_toList]; rfl) HV.out ?_)
  clear HV HTh
  refine (iinst (w.heap.size + 1) s s1 _ HE.out.rd hs).mono ?_
  rintro e u3 ⟨⟨m8, ⟨m9, m10⟩, ⟨m11, m12⟩, ⟨m13, m14, m15, m16, m17, m18, m19, m20⟩, m21, l22⟩, a22, d22, f22, he, hr22, hy, h1, h2⟩
  rw [he.out]
  rw [G2.out] at hy h1
  have HYI := Lib.hid hy
  have HR22 := Lib.hid hr22
  obtain ⟨q22, hq22⟩ : ∃ q, q = v2.heap.size := ⟨_, rfl⟩
  rw [← hq22] at HR22
  have HR22b : Hid (w.heap.size + 1 + 1 + 1 < q22) := Lib.hid (by have := HE.out.sz; omega)
  clear hy hr22 hq22
  have HJ := Lib.hid (HE.out.call h1 h2)
  have HTh := Lib.hid (HJ.out.bx.there 4 15 (Nat.le_of_ble_eq_true rfl))
  obtain ⟨v3, hv⟩ : ∃ q, u3.setCells (w.heap.size + 1 + 1 + 1) 4 [.int .i64 m8, .int .i64 m9, .int .i64 m10, .int .i64 m11, .int .i64 m12, .int .i64 m13, .int .i64 m14, .int .i64 m15, .string m16, .string m17, .int .i64 m18, .int .i64 m19, .int .i64 m20, .int .i64 m21, .slice a22 d22 f22] = q := ⟨_, rfl⟩
  have HK := Lib.hid (HJ.out.sets 4 [.int .i64 m8, .int .i64 m9, .int .i64 m10, .int .i64 m11, .int .i64 m12, .int .i64 m13, .int .i64 m14, .int .i64 m15, .string m16, .string m17, .int .i64 m18, .int .i64 m19, .int .i64 m20, .int .i64 m21, .slice a22 d22 f22])
  simp only [splice, List.set_cons_zero, List.set_cons_succ] at HK
  rw [hv] at HK
  have HV := Lib.hid hv
  clear hv
  clear HE HJ c0 he h1 h2
  have c0 := HK.out.ci
  have HE := HK
  clear HK
  have HR22x := Lib.hid (HR22.out.sets (b := w.heap.size + 1 + 1 + 1) (by have := HR22b.out; omega) 4 [.int .i64 m8, .int .i64 m9, .int .i64 m10, .int .i64 m11, .int .i64 m12, .int .i64 m13, .int .i64 m14, .int .i64 m15, .string m16, .string m17, .int .i64 m18, .int .i64 m19, .int .i64 m20, .int .i64 m21, .slice a22 d22 f22])
  rw [HV.out] at HR22x
  clear HR22
  have HR22 := HR22x
  clear HR22x
  go_wp2_with (refine wpList_store_nm rfl 35 _ _ rfl (w.heap.size + 1 + 1 + 1) 4 #[.int .i64 m8, .int .i64 m9, .int .i64 m10, .int .i64 m11, .int .i64 m12, .int .i64 m13, .int .i64 m14, .int .i64 m15, .string m16, .string m17, .int .i64 m18, .int .i64 m19, .int .i64 m20, .int .i64 m21, .slice a22 d22 f22] rfl rfl HTh.out (by kernel_rfl) (by rw [← Array.all_toList]; rfl) HV.out ?_)
  clear HV HTh
  refine (dend (w.heap.size + 1) s _ _ HE.out.rd).mono ?_
  rintro e wx ⟨he, h1⟩
  rw [he.out]
  have HXr := Lib.hid (HE.out.bx.below h1)
  have HZr := Lib.hid ((HZ1.out.fo HE.out.fo (by omega)).below h1)
  have hv7 := HE.out.fo.size
  have hBx : Below w.heap.size w wx := by
    have f := HE.out.fo
    have b := HB1.out
    exact ⟨h1.os.trans (f.os.trans b.os), h1.tape.trans (f.tape.trans b.tape), h1.output.trans (f.output.trans b.output), Nat.le_trans b.size (Nat.le_trans f.size h1.size), fun k hk => (h1.block k (by have := b.size; omega)).trans ((f.block k (by have := b.size; omega) (by omega)).trans (b.block k hk))⟩
  have HBx := Lib.hid hBx
  have HRx := Lib.hid h1
  clear he h1 hBx c0 hv7
  have HXi : Hid ((Try.prog.info? 57).map (·.size) = some 23) := Lib.hid (by kernel_rfl)
  obtain ⟨er, her⟩ : ∃ er, endE s2 = er := ⟨_, rfl⟩
  have HEr := Lib.hid her
  rw [her]
  clear her
  by_cases q : er = 0
  · subst q
    have hEn := endE_ok HEr.out
    have HEn := Lib.hid hEn
    have HLv := Lib.hid (run_loadVar_row (wx.setRow w.heap.size #[.bool false, .int .i64 n1, .int .i64 n2, .int .i64 n3, .int .i64 m8, .int .i64 m9, .int .i64 m10, .int .i64 m11, .int .i64 m12, .int .i64 m13, .int .i64 m14, .int .i64 m15, .string m16, .string m17, .int .i64 m18, .int .i64 m19, .int .i64 m20, .int .i64 m21, .slice a22 d22 f22, .int .i64 0, .slice none 0 0, .slice none 0 0, .slice none 0 0]) _ _ _ #[.bool false, .int .i64 n1, .int .i64 n2, .int .i64 n3, .int .i64 m8, .int .i64 m9, .int .i64 m10, .int .i64 m11, .int .i64 m12, .int .i64 m13, .int .i64 m14, .int .i64 m15, .string m16, .string m17, .int .i64 m18, .int .i64 m19, .int .i64 m20, .int .i64 m21, .slice a22 d22 f22, .int .i64 0, .slice none 0 0, .slice none 0 0, .slice none 0 0] (0, 0) _ (heap_setRow_same _ _ #[.bool false, .int .i64 0, .int .i64 0, .int .i64 0, .int .i64 0, .int .i64 0, .int .i64 0, .int .i64 0, .int .i64 0, .int .i64 0, .int .i64 0, .int .i64 0, .string ⟨#[]⟩, .string ⟨#[]⟩, .int .i64 0, .int .i64 0, .int .i64 0, .int .i64 0, .slice none 0 0, .int .i64 0, .slice none 0 0, .slice none 0 0, .slice none 0 0] #[.bool false, .int .i64 n1, .int .i64 n2, .int .i64 n3, .int .i64 m8, .int .i64 m9, .int .i64 m10, .int .i64 m11, .int .i64 m12, .int .i64 m13, .int .i64 m14, .int .i64 m15, .string m16, .string m17, .int .i64 m18, .int .i64 m19, .int .i64 m20, .int .i64 m21, .slice a22 d22 f22, .int .i64 0, .slice none 0 0, .slice none 0 0, .slice none 0 0] _ HZr.out) Try.underlying57 rfl HXi.out)
    have HBf := Lib.hid (below_setRow HBx.out (Nat.le_refl _) #[.bool false, .int .i64 n1, .int .i64 n2, .int .i64 n3, .int .i64 m8, .int .i64 m9, .int .i64 m10, .int .i64 m11, .int .i64 m12, .int .i64 m13, .int .i64 m14, .int .i64 m15, .string m16, .string m17, .int .i64 m18, .int .i64 m19, .int .i64 m20, .int .i64 m21, .slice a22 d22 f22, .int .i64 0, .slice none 0 0, .slice none 0 0, .slice none 0 0])
    have HMf : Hid (∀ w'' : World, (∀ k, w.heap.size ≤ k → k < (wx.setRow w.heap.size #[.bool false, .int .i64 n1, .int .i64 n2, .int .i64 n3, .int .i64 m8, .int .i64 m9, .int .i64 m10, .int .i64 m11, .int .i64 m12, .int .i64 m13, .int .i64 m14, .int .i64 m15, .string m16, .string m17, .int .i64 m18, .int .i64 m19, .int .i64 m20, .int .i64 m21, .slice a22 d22 f22, .int .i64 0, .slice none 0 0, .slice none 0 0, .slice none 0 0]).heap.size → w''.heap[k]? = (wx.setRow w.heap.size #[.bool false, .int .i64 n1, .int .i64 n2, .int .i64 n3, .int .i64 m8, .int .i64 m9, .int .i64 m10, .int .i64 m11, .int .i64 m12, .int .i64 m13, .int .i64 m14, .int .i64 m15, .string m16, .string m17, .int .i64 m18, .int .i64 m19, .int .i64 m20, .int .i64 m21, .slice a22 d22 f22, .int .i64 0, .slice none 0 0, .slice none 0 0, .slice none 0 0]).heap[k]?) → RecIs w'' (.agg #[.bool false, .int .i64 n1, .int .i64 n2, .int .i64 n3, .int .i64 m8, .int .i64 m9, .int .i64 m10, .int .i64 m11, .int .i64 m12, .int .i64 m13, .int .i64 m14, .int .i64 m15, .string m16, .string m17, .int .i64 m18, .int .i64 m19, .int .i64 m20, .int .i64 m21, .slice a22 d22 f22, .int .i64 0, .slice none 0 0, .slice none 0 0, .slice none 0 0]) (false, (n1, n2, n3), xi, zSnp)) := Lib.hid (fun w'' hw'' => by
    have z6 : s2.2 = 0 := HEn.out.1
    have ei := HYI.out z6
    have ho := (HIv.out z6).1
    rw [← ei] at ho
    have hk' : ∀ (N : Nat) (T : TypeId) (k : Nat), w.heap.size < N → N ≤ k → (Ty wx k 9 ∨ Ty wx k T) → w''.heap[k]? = wx.heap[k]? := fun N T k hN h hq => (hw'' k (by omega) (by rw [(sx_setRow _ w.heap.size _).size]; rcases hq with ⟨cs, fr, q⟩ | ⟨cs, fr, q⟩ <;> exact (Array.getElem?_eq_some_iff.1 q).1)).trans ((sx_setRow _ w.heap.size _).block k (by omega))
    have h22 := (HR22.out.under HRx.out).keep (fun k => hk' _ _ k (by have := HR22b.out; have := HS1.out; omega))
    unfold rcFs rc0Fs at ho
    simp only [Bool.false_eq_true, if_false, inC, atC, cmC, oks_cons, pairC_fs, oks_app] at ho
    obtain ⟨_, _, _, _, _, ⟨_, _, _, t16, t17, _⟩, _, o22⟩ := ho
    obtain ⟨rs22, g22⟩ := OwnR.row (S := idS) h22 (fun cs x _ hq => hq)
    rw [← ei]
    exact ⟨_, rfl, rc_mk (x := (false, (n1, n2, n3), (m8, (m9, m10), (m11, m12), (m13, m14, m15, m16, m17, m18, m19, m20), m21, l22), zSnp)) (in_mk (tx_max t16) (tx_max t17) g22) (sn_zero w'')⟩)
    clear hEn
    go_wp2_with (first | (refine wpList_load_row rfl _ _ rfl (w.heap.size + 1 + 1 + 1) rfl 57 #[.bool false, .int .i64 n1, .int .i64 n2, .int .i64 n3, .int .i64 m8, .int .i64 m9, .int .i64 m10, .int .i64 m11, .int .i64 m12, .int .i64 m13, .int .i64 m14, .int .i64 m15, .string m16, .string m17, .int .i64 m18, .int .i64 m19, .int .i64 m20, .int .i64 m21, .slice a22 d22 f22, .int .i64 0, .slice none 0 0, .slice none 0 0, .slice none 0 0] (0, 0) _ HXr.out Try.underlying57 rfl HXi.out ?_) | (refine wpList_store_row rfl 57 _ _ rfl w.heap.size rfl #[.bool false, .int .i64 n1, .int .i64 n2, .int .i64 n3, .int .i64 m8, .int .i64 m9, .int .i64 m10, .int .i64 m11, .int .i64 m12, .int .i64 m13, .int .i64 m14, .int .i64 m15, .string m16, .string m17, .int .i64 m18, .int .i64 m19, .int .i64 m20, .int .i64 m21, .slice a22 d22 f22, .int .i64 0, .slice none 0 0, .slice none 0 0, .slice none 0 0] rfl #[.bool false, .int .i64 0, .int .i64 0, .int .i64 0, .int .i64 0, .int .i64 0, .int .i64 0, .int .i64 0, .int .i64 0, .int .i64 0, .int .i64 0, .int .i64 0, .string ⟨#[]⟩, .string ⟨#[]⟩, .int .i64 0, .int .i64 0, .int .i64 0, .int .i64 0, .slice none 0 0, .int .i64 0, .slice none 0 0, .slice none 0 0, .slice none 0 0] 57 HZr.out HXi.out rfl (by rw [← Array.all_toList]; rfl) ?_))
    have hlv := HLv.out
    exact bodyPost_ret (v := .tuple #[.agg #[.bool false, .int .i64 n1, .int .i64 n2, .int .i64 n3, .int .i64 m8, .int .i64 m9, .int .i64 m10, .int .i64 m11, .int .i64 m12, .int .i64 m13, .int .i64 m14, .int .i64 m15, .string m16, .string m17, .int .i64 m18, .int .i64 m19, .int .i64 m20, .int .i64 m21, .slice a22 d22 f22, .int .i64 0, .slice none 0 0, .slice none 0 0, .slice none 0 0], .int .i64 0]) (by simp [results, Try.results20, asAddr, Act.put, hlv]) rfl (by unfold GrG; rw [HE6.out]; exact ⟨_, Lib.hid (by rw [HEr.out]), HBf.out, .inl ⟨HEr.out, HMf.out⟩⟩)
  · have q1 : (er == 0) = false := by simpa using q
    have q2 : (er != 0) = true := by simpa using q
    have HQ := Lib.hid q
    have HLv := Lib.hid (run_loadVar_row (wx.setRow w.heap.size #[.bool false, .int .i64 0, .int .i64 0, .int .i64 0, .int .i64 0, .int .i64 0, .int .i64 0, .int .i64 0, .int .i64 0, .int .i64 0, .int .i64 0, .int .i64 0, .string ⟨#[]⟩, .string ⟨#[]⟩, .int .i64 0, .int .i64 0, .int .i64 0, .int .i64 0, .slice none 0 0, .int .i64 0, .slice none 0 0, .slice none 0 0, .slice none 0 0]) _ _ _ #[.bool false, .int .i64 0, .int .i64 0, .int .i64 0, .int .i64 0, .int .i64 0, .int .i64 0, .int .i64 0, .int .i64 0, .int .i64 0, .int .i64 0, .int .i64 0, .string ⟨#[]⟩, .string ⟨#[]⟩, .int .i64 0, .int .i64 0, .int .i64 0, .int .i64 0, .slice none 0 0, .int .i64 0, .slice none 0 0, .slice none 0 0, .slice none 0 0] (0, 0) _ (heap_setRow_same _ _ #[.bool false, .int .i64 0, .int .i64 0, .int .i64 0, .int .i64 0, .int .i64 0, .int .i64 0, .int .i64 0, .int .i64 0, .int .i64 0, .int .i64 0, .int .i64 0, .string ⟨#[]⟩, .string ⟨#[]⟩, .int .i64 0, .int .i64 0, .int .i64 0, .int .i64 0, .slice none 0 0, .int .i64 0, .slice none 0 0, .slice none 0 0, .slice none 0 0] #[.bool false, .int .i64 0, .int .i64 0, .int .i64 0, .int .i64 0, .int .i64 0, .int .i64 0, .int .i64 0, .int .i64 0, .int .i64 0, .int .i64 0, .int .i64 0, .string ⟨#[]⟩, .string ⟨#[]⟩, .int .i64 0, .int .i64 0, .int .i64 0, .int .i64 0, .slice none 0 0, .int .i64 0, .slice none 0 0, .slice none 0 0, .slice none 0 0] _ HZr.out) Try.underlying57 rfl HXi.out)
    have HBf := Lib.hid (below_setRow HBx.out (Nat.le_refl _) #[.bool false, .int .i64 0, .int .i64 0, .int .i64 0, .int .i64 0, .int .i64 0, .int .i64 0, .int .i64 0, .int .i64 0, .int .i64 0, .int .i64 0, .int .i64 0, .string ⟨#[]⟩, .string ⟨#[]⟩, .int .i64 0, .int .i64 0, .int .i64 0, .int .i64 0, .slice none 0 0, .int .i64 0, .slice none 0 0, .slice none 0 0, .slice none 0 0])
    clear q
    go_wp2_with (refine wpList_store_row rfl 57 _ _ rfl w.heap.size rfl #[.bool false, .int .i64 0, .int .i64 0, .int .i64 0, .int .i64 0, .int .i64 0, .int .i64 0, .int .i64 0, .int .i64 0, .int .i64 0, .int .i64 0, .int .i64 0, .string ⟨#[]⟩, .string ⟨#[]⟩, .int .i64 0, .int .i64 0, .int .i64 0, .int .i64 0, .slice none 0 0, .int .i64 0, .slice none 0 0, .slice none 0 0, .slice none 0 0] rfl #[.bool false, .int .i64 0, .int .i64 0, .int .i64 0, .int .i64 0, .int .i64 0, .int .i64 0, .int .i64 0, .int .i64 0, .int .i64 0, .int .i64 0, .int .i64 0, .string ⟨#[]⟩, .string ⟨#[]⟩, .int .i64 0, .int .i64 0, .int .i64 0, .int .i64 0, .slice none 0 0, .int .i64 0, .slice none 0 0, .slice none 0 0, .slice none 0 0] 57 HZr.out HXi.out rfl (by rw [← Array.all_toList]; rfl) ?_)
    have hlv := HLv.out
    exact bodyPost_ret (v := .tuple #[.agg #[.bool false, .int .i64 0, .int .i64 0, .int .i64 0, .int .i64 0, .int .i64 0, .int .i64 0, .int .i64 0, .int .i64 0, .int .i64 0, .int .i64 0, .int .i64 0, .string ⟨#[]⟩, .string ⟨#[]⟩, .int .i64 0, .int .i64 0, .int .i64 0, .int .i64 0, .slice none 0 0, .int .i64 0, .slice none 0 0, .slice none 0 0, .slice none 0 0], .int .i64 er]) (by simp [results, Try.results20, asAddr, Act.put, hlv]) rfl (by unfold GrG; rw [HE6.out]; exact ⟨.agg z23, Lib.hid (by rw [HEr.out]; rfl), HBf.out, .inr ⟨by rw [HEr.out]; exact HQ.out, rfl⟩⟩)
set_option maxRecDepth 100000 in
set_option maxHeartbeats 8000000 in
theorem rget_b (s : ByteArray) (w : World) (hs : s.size ≤ 1000000000) (s0 : RSt) (g0 : gNum (byt s, 0) = (0, s0)) (hq : s0.2 ≠ 0) :
    Calls Try.prog 20 #[.string s] w (GrG (byt s) w) := by
  obtain ⟨x0, e0⟩ := s0
  simp only at hq
  have q1 : (e0 == 0) = false := by simpa using hq
  clear hq
  obtain ⟨⟨n1, n2, n3⟩, s1, g1⟩ : ∃ b t, idC.rd (x0, e0) = (b, t) := ⟨_, _, rfl⟩
  obtain ⟨xi, s2, g2⟩ : ∃ b t, inC.rd s1 = (b, t) := ⟨_, _, rfl⟩
  have hE : rcRd (byt s, 0) = ((false, (n1, n2, n3), xi, zSnp), s2) := by
    unfold rcRd rc0Rd
    rw [g0]
    simp only [g1, g2, if_true]
  have HE6 := Lib.hid hE
  have HIv := Lib.hid (rc_inv (byt s) (byt_range s))
  rw [hE] at HIv
  have G0 := Lib.hid g0
  have G1 := Lib.hid g1
  have G2 := Lib.hid g2
  obtain ⟨hb1, hb2, hb3, hb4⟩ := four_boxes w s 57 [.bool false, .int .i64 0, .int .i64 0, .int .i64 0, .int .i64 0, .int .i64 0, .int .i64 0, .int .i64 0, .int .i64 0, .int .i64 0, .int .i64 0, .int .i64 0, .string ⟨#[]⟩, .string ⟨#[]⟩, .int .i64 0, .int .i64 0, .int .i64 0, .int .i64 0, .slice none 0 0, .int .i64 0, .slice none 0 0, .slice none 0 0, .slice none 0 0]
  have HE := Lib.hid hb1
  have HZ1 := Lib.hid hb2
  have HB1 := Lib.hid hb3
  have HS1 := Lib.hid hb4
  have HE0 := Lib.hid (HE.out.setRow [.bool false, .int .i64 0, .int .i64 0, .int .i64 0, .int .i64 0, .int .i64 0, .int .i64 0, .int .i64 0, .int .i64 0, .int .i64 0, .int .i64 0, .int .i64 0, .string ⟨#[]⟩, .string ⟨#[]⟩, .int .i64 0, .int .i64 0, .int .i64 0, .int .i64 0, .slice none 0 0, .int .i64 0, .slice none 0 0, .slice none 0 0, .slice none 0 0])
  have HXi0 : Hid ((Try.prog.info? 57).map (·.size) = some 23) := Lib.hid (by kernel_rfl)
  have c0 := HE0.out.ci
  clear hb1 hb2 hb3 hb4 hE g0 g1 g2
  go_enter Try.func20, Try.ntmps20
  go_wp2_with (refine wpList_store_row rfl 57 _ _ rfl (w.heap.size + 1 + 1 + 1) rfl #[.bool false, .int .i64 0, .int .i64 0, .int .i64 0, .int .i64 0, .int .i64 0, .int .i64 0, .int .i64 0, .int .i64 0, .int .i64 0, .int .i64 0, .int .i64 0, .string ⟨#[]⟩, .string ⟨#[]⟩, .int .i64 0, .int .i64 0, .int .i64 0, .int .i64 0, .slice none 0 0, .int .i64 0, .slice none 0 0, .slice none 0 0, .slice none 0 0] rfl #[.bool false, .int .i64 0, .int .i64 0, .int .i64 0, .int .i64 0, .int .i64 0, .int .i64 0, .int .i64 0, .int .i64 0, .int .i64 0, .int .i64 0, .int .i64 0, .string ⟨#[]⟩, .string ⟨#[]⟩, .int .i64 0, .int .i64 0, .int .i64 0, .int .i64 0, .slice none 0 0, .int .i64 0, .slice none 0 0, .slice none 0 0, .slice none 0 0] 57 HE.out.bx HXi0.out rfl (by rw [← Array.all_toList]; rfl) ?_)
  clear HE
  have HE := HE0
  clear HE0
  refine (inumE (w.heap.size + 1) s _ _ _ _ HE.out.rd hs G0.out).mono ?_
  rintro e u1 ⟨he, h1, h2⟩
  rw [he.out]
  have HJ := Lib.hid (HE.out.call h1 h2)
  have ce := HJ.out.ce
  simp only at ce
  have HK := HJ
  clear HE HJ c0 he h1 h2
  have c0 := HK.out.ci
  have HE := HK
  clear HK
  generalize (((w.alloc (.cells [.bool false, .int .i64 0, .int .i64 0, .int .i64 0, .int .i64 0, .int .i64 0, .int .i64 0, .int .i64 0, .int .i64 0, .int .i64 0, .int .i64 0, .int .i64 0, .string ⟨#[]⟩, .string ⟨#[]⟩, .int .i64 0, .int .i64 0, .int .i64 0, .int .i64 0, .slice none 0 0, .int .i64 0, .slice none 0 0, .slice none 0 0, .slice none 0 0].toArray 57)).alloc (.cells #[.string s, .int .i64 0, .int .i64 0] 93)).alloc (.cells #[.pointer (some ⟨w.heap.size + 1, 0, none⟩)] 95)) = W1 at HE HZ1 HB1 HS1
  go_wp2_with fail
  clear ce
  refine (iid (w.heap.size + 1) s _ _ n1 n2 n3 _ HE.out.rd hs G1.out).mono ?_
  rintro e u2 ⟨he, h1, h2⟩
  rw [he.out]
  have HJ := Lib.hid (HE.out.call h1 h2)
  have HTh := Lib.hid (HJ.out.bx.there 1 3 (Nat.le_of_ble_eq_true rfl))
  obtain ⟨v2, hv⟩ : ∃ q, u2.setCells (w.heap.size + 1 + 1 + 1) 1 [.int .i64 n1, .int .i64 n2, .int .i64 n3] = q := ⟨_, rfl⟩
  have HK := Lib.hid (HJ.out.sets 1 [.int .i64 n1, .int .i64 n2, .int .i64 n3])
  simp only [splice, List.set_cons_zero, List.set_cons_succ] at HK
  rw [hv] at HK
  have HV := Lib.hid hv
  clear hv
  clear HE HJ c0 he h1 h2
  have c0 := HK.out.ci
  have HE := HK
  clear HK
  go_wp2_with (refine wpList_store_nm rfl 24 _ _ rfl (w.heap.size + 1 + 1 + 1) 1 #[.int .i64 n1, .int .i64 n2, .int .i64 n3] rfl rfl HTh.out (by kernel_rfl) (by rw [← Array.all_toList]; rfl) HV.out ?_)
  clear HV HTh
  refine (iinst (w.heap.size + 1) s s1 _ HE.out.rd hs).mono ?_
  rintro e u3 ⟨⟨m8, ⟨m9, m10⟩, ⟨m11, m12⟩, ⟨m13, m14, m15, m16, m17, m18, m19, m20⟩, m21, l22⟩, a22, d22, f22, he, hr22, hy, h1, h2⟩
  rw [he.out]
  rw [G2.out] at hy h1
  have HYI := Lib.hid hy
  have HR22 := Lib.hid hr22
  obtain ⟨q22, hq22⟩ : ∃ q, q = v2.heap.size := ⟨_, rfl⟩
  rw [← hq22] at HR22
  have HR22b : Hid (w.heap.size + 1 + 1 + 1 < q22) := Lib.hid (by have := HE.out.sz; omega)
  clear hy hr22 hq22
  have HJ := Lib.hid (HE.out.call h1 h2)
  have HTh := Lib.hid (HJ.out.bx.there 4 15 (Nat.le_of_ble_eq_true rfl))
  obtain ⟨v3, hv⟩ : ∃ q, u3.setCells (w.heap.size + 1 + 1 + 1) 4 [.int .i64 m8, .int .i64 m9, .int .i64 m10, .int .i64 m11, .int .i64 m12, .int .i64 m13, .int .i64 m14, .int .i64 m15, .string m16, .string m17, .int .i64 m18, .int .i64 m19, .int .i64 m20, .int .i64 m21, .slice a22 d22 f22] = q := ⟨_, rfl⟩
  have HK := Lib.hid (HJ.out.sets 4 [.int .i64 m8, .int .i64 m9, .int .i64 m10, .int .i64 m11, .int .i64 m12, .int .i64 m13, .int .i64 m14, .int .i64 m15, .string m16, .string m17, .int .i64 m18, .int .i64 m19, .int .i64 m20, .int .i64 m21, .slice a22 d22 f22])
  simp only [splice, List.set_cons_zero, List.set_cons_succ] at HK
  rw [hv] at HK
  have HV := Lib.hid hv
  clear hv
  clear HE HJ c0 he h1 h2
  have c0 := HK.out.ci
  have HE := HK
  clear HK
  have HR22x := Lib.hid (HR22.out.sets (b := w.heap.size + 1 + 1 + 1) (by have := HR22b.out; omega) 4 [.int .i64 m8, .int .i64 m9, .int .i64 m10, .int .i64 m11, .int .i64 m12, .int .i64 m13, .int .i64 m14, .int .i64 m15, .string m16, .string m17, .int .i64 m18, .int .i64 m19, .int .i64 m20, .int .i64 m21, .slice a22 d22 f22])
  rw [HV.out] at HR22x
  clear HR22
  have HR22 := HR22x
  clear HR22x
  go_wp2_with (refine wpList_store_nm rfl 35 _ _ rfl (w.heap.size + 1 + 1 + 1) 4 #[.int .i64 m8, .int .i64 m9, .int .i64 m10, .int .i64 m11, .int .i64 m12, .int .i64 m13, .int .i64 m14, .int .i64 m15, .string m16, .string m17, .int .i64 m18, .int .i64 m19, .int .i64 m20, .int .i64 m21, .slice a22 d22 f22] rfl rfl HTh.out (by kernel_rfl) (by rw [← Array.all_toList]; rfl) HV.out ?_)
  clear HV HTh
  refine (dend (w.heap.size + 1) s _ _ HE.out.rd).mono ?_
  rintro e wx ⟨he, h1⟩
  rw [he.out]
  have HXr := Lib.hid (HE.out.bx.below h1)
  have HZr := Lib.hid ((HZ1.out.fo HE.out.fo (by omega)).below h1)
  have hv7 := HE.out.fo.size
  have hBx : Below w.heap.size w wx := by
    have f := HE.out.fo
    have b := HB1.out
    exact ⟨h1.os.trans (f.os.trans b.os), h1.tape.trans (f.tape.trans b.tape), h1.output.trans (f.output.trans b.output), Nat.le_trans b.size (Nat.le_trans f.size h1.size), fun k hk => (h1.block k (by have := b.size; omega)).trans ((f.block k (by have := b.size; omega) (by omega)).trans (b.block k hk))⟩
  have HBx := Lib.hid hBx
  have HRx := Lib.hid h1
  clear he h1 hBx c0 hv7
  have HXi : Hid ((Try.prog.info? 57).map (·.size) = some 23) := Lib.hid (by kernel_rfl)
  obtain ⟨er, her⟩ : ∃ er, endE s2 = er := ⟨_, rfl⟩
  have HEr := Lib.hid her
  rw [her]
  clear her
  by_cases q : er = 0
  · subst q
    have hEn := endE_ok HEr.out
    have HEn := Lib.hid hEn
    have HLv := Lib.hid (run_loadVar_row (wx.setRow w.heap.size #[.bool false, .int .i64 n1, .int .i64 n2, .int .i64 n3, .int .i64 m8, .int .i64 m9, .int .i64 m10, .int .i64 m11, .int .i64 m12, .int .i64 m13, .int .i64 m14, .int .i64 m15, .string m16, .string m17, .int .i64 m18, .int .i64 m19, .int .i64 m20, .int .i64 m21, .slice a22 d22 f22, .int .i64 0, .slice none 0 0, .slice none 0 0, .slice none 0 0]) _ _ _ #[.bool false, .int .i64 n1, .int .i64 n2, .int .i64 n3, .int .i64 m8, .int .i64 m9, .int .i64 m10, .int .i64 m11, .int .i64 m12, .int .i64 m13, .int .i64 m14, .int .i64 m15, .string m16, .string m17, .int .i64 m18, .int .i64 m19, .int .i64 m20, .int .i64 m21, .slice a22 d22 f22, .int .i64 0, .slice none 0 0, .slice none 0 0, .slice none 0 0] (0, 0) _ (heap_setRow_same _ _ #[.bool false, .int .i64 0, .int .i64 0, .int .i64 0, .int .i64 0, .int .i64 0, .int .i64 0, .int .i64 0, .int .i64 0, .int .i64 0, .int .i64 0, .int .i64 0, .string ⟨#[]⟩, .string ⟨#[]⟩, .int .i64 0, .int .i64 0, .int .i64 0, .int .i64 0, .slice none 0 0, .int .i64 0, .slice none 0 0, .slice none 0 0, .slice none 0 0] #[.bool false, .int .i64 n1, .int .i64 n2, .int .i64 n3, .int .i64 m8, .int .i64 m9, .int .i64 m10, .int .i64 m11, .int .i64 m12, .int .i64 m13, .int .i64 m14, .int .i64 m15, .string m16, .string m17, .int .i64 m18, .int .i64 m19, .int .i64 m20, .int .i64 m21, .slice a22 d22 f22, .int .i64 0, .slice none 0 0, .slice none 0 0, .slice none 0 0] _ HZr.out) Try.underlying57 rfl HXi.out)
    have HBf := Lib.hid (below_setRow HBx.out (Nat.le_refl _) #[.bool false, .int .i64 n1, .int .i64 n2, .int .i64 n3, .int .i64 m8, .int .i64 m9, .int .i64 m10, .int .i64 m11, .int .i64 m12, .int .i64 m13, .int .i64 m14, .int .i64 m15, .string m16, .string m17, .int .i64 m18, .int .i64 m19, .int .i64 m20, .int .i64 m21, .slice a22 d22 f22, .int .i64 0, .slice none 0 0, .slice none 0 0, .slice none 0 0])
    have HMf : Hid (∀ w'' : World, (∀ k, w.heap.size ≤ k → k < (wx.setRow w.heap.size #[.bool false, .int .i64 n1, .int .i64 n2, .int .i64 n3, .int .i64 m8, .int .i64 m9, .int .i64 m10, .int .i64 m11, .int .i64 m12, .int .i64 m13, .int .i64 m14, .int .i64 m15, .string m16, .string m17, .int .i64 m18, .int .i64 m19, .int .i64 m20, .int .i64 m21, .slice a22 d22 f22, .int .i64 0, .slice none 0 0, .slice none 0 0, .slice none 0 0]).heap.size → w''.heap[k]? = (wx.setRow w.heap.size #[.bool false, .int .i64 n1, .int .i64 n2, .int .i64 n3, .int .i64 m8, .int .i64 m9, .int .i64 m10, .int .i64 m11, .int .i64 m12, .int .i64 m13, .int .i64 m14, .int .i64 m15, .string m16, .string m17, .int .i64 m18, .int .i64 m19, .int .i64 m20, .int .i64 m21, .slice a22 d22 f22, .int .i64 0, .slice none 0 0, .slice none 0 0, .slice none 0 0]).heap[k]?) → RecIs w'' (.agg #[.bool false, .int .i64 n1, .int .i64 n2, .int .i64 n3, .int .i64 m8, .int .i64 m9, .int .i64 m10, .int .i64 m11, .int .i64 m12, .int .i64 m13, .int .i64 m14, .int .i64 m15, .string m16, .string m17, .int .i64 m18, .int .i64 m19, .int .i64 m20, .int .i64 m21, .slice a22 d22 f22, .int .i64 0, .slice none 0 0, .slice none 0 0, .slice none 0 0]) (false, (n1, n2, n3), xi, zSnp)) := Lib.hid (fun w'' hw'' => by
    have z6 : s2.2 = 0 := HEn.out.1
    have ei := HYI.out z6
    have ho := (HIv.out z6).1
    rw [← ei] at ho
    have hk' : ∀ (N : Nat) (T : TypeId) (k : Nat), w.heap.size < N → N ≤ k → (Ty wx k 9 ∨ Ty wx k T) → w''.heap[k]? = wx.heap[k]? := fun N T k hN h hq => (hw'' k (by omega) (by rw [(sx_setRow _ w.heap.size _).size]; rcases hq with ⟨cs, fr, q⟩ | ⟨cs, fr, q⟩ <;> exact (Array.getElem?_eq_some_iff.1 q).1)).trans ((sx_setRow _ w.heap.size _).block k (by omega))
    have h22 := (HR22.out.under HRx.out).keep (fun k => hk' _ _ k (by have := HR22b.out; have := HS1.out; omega))
    unfold rcFs rc0Fs at ho
    simp only [Bool.false_eq_true, if_false, inC, atC, cmC, oks_cons, pairC_fs, oks_app] at ho
    obtain ⟨_, _, _, _, _, ⟨_, _, _, t16, t17, _⟩, _, o22⟩ := ho
    obtain ⟨rs22, g22⟩ := OwnR.row (S := idS) h22 (fun cs x _ hq => hq)
    rw [← ei]
    exact ⟨_, rfl, rc_mk (x := (false, (n1, n2, n3), (m8, (m9, m10), (m11, m12), (m13, m14, m15, m16, m17, m18, m19, m20), m21, l22), zSnp)) (in_mk (tx_max t16) (tx_max t17) g22) (sn_zero w'')⟩)
    clear hEn
    go_wp2_with (first | (refine wpList_load_row rfl _ _ rfl (w.heap.size + 1 + 1 + 1) rfl 57 #[.bool false, .int .i64 n1, .int .i64 n2, .int .i64 n3, .int .i64 m8, .int .i64 m9, .int .i64 m10, .int .i64 m11, .int .i64 m12, .int .i64 m13, .int .i64 m14, .int .i64 m15, .string m16, .string m17, .int .i64 m18, .int .i64 m19, .int .i64 m20, .int .i64 m21, .slice a22 d22 f22, .int .i64 0, .slice none 0 0, .slice none 0 0, .slice none 0 0] (0, 0) _ HXr.out Try.underlying57 rfl HXi.out ?_) | (refine wpList_store_row rfl 57 _ _ rfl w.heap.size rfl #[.bool false, .int .i64 n1, .int .i64 n2, .int .i64 n3, .int .i64 m8, .int .i64 m9, .int .i64 m10, .int .i64 m11, .int .i64 m12, .int .i64 m13, .int .i64 m14, .int .i64 m15, .string m16, .string m17, .int .i64 m18, .int .i64 m19, .int .i64 m20, .int .i64 m21, .slice a22 d22 f22, .int .i64 0, .slice none 0 0, .slice none 0 0, .slice none 0 0] rfl #[.bool false, .int .i64 0, .int .i64 0, .int .i64 0, .int .i64 0, .int .i64 0, .int .i64 0, .int .i64 0, .int .i64 0, .int .i64 0, .int .i64 0, .int .i64 0, .string ⟨#[]⟩, .string ⟨#[]⟩, .int .i64 0, .int .i64 0, .int .i64 0, .int .i64 0, .slice none 0 0, .int .i64 0, .slice none 0 0, .slice none 0 0, .slice none 0 0] 57 HZr.out HXi.out rfl (by rw [← Array.all_toList]; rfl) ?_))
    have hlv := HLv.out
    exact bodyPost_ret (v := .tuple #[.agg #[.bool false, .int .i64 n1, .int .i64 n2, .int .i64 n3, .int .i64 m8, .int .i64 m9, .int .i64 m10, .int .i64 m11, .int .i64 m12, .int .i64 m13, .int .i64 m14, .int .i64 m15, .string m16, .string m17, .int .i64 m18, .int .i64 m19, .int .i64 m20, .int .i64 m21, .slice a22 d22 f22, .int .i64 0, .slice none 0 0, .slice none 0 0, .slice none 0 0], .int .i64 0]) (by simp [results, Try.results20, asAddr, Act.put, hlv]) rfl (by unfold GrG; rw [HE6.out]; exact ⟨_, Lib.hid (by rw [HEr.out]), HBf.out, .inl ⟨HEr.out, HMf.out⟩⟩)
  · have q1 : (er == 0) = false := by simpa using q
    have q2 : (er != 0) = true := by simpa using q
    have HQ := Lib.hid q
    have HLv := Lib.hid (run_loadVar_row (wx.setRow w.heap.size #[.bool false, .int .i64 0, .int .i64 0, .int .i64 0, .int .i64 0, .int .i64 0, .int .i64 0, .int .i64 0, .int .i64 0, .int .i64 0, .int .i64 0, .int .i64 0, .string ⟨#[]⟩, .string ⟨#[]⟩, .int .i64 0, .int .i64 0, .int .i64 0, .int .i64 0, .slice none 0 0, .int .i64 0, .slice none 0 0, .slice none 0 0, .slice none 0 0]) _ _ _ #[.bool false, .int .i64 0, .int .i64 0, .int .i64 0, .int .i64 0, .int .i64 0, .int .i64 0, .int .i64 0, .int .i64 0, .int .i64 0, .int .i64 0, .int .i64 0, .string ⟨#[]⟩, .string ⟨#[]⟩, .int .i64 0, .int .i64 0, .int .i64 0, .int .i64 0, .slice none 0 0, .int .i64 0, .slice none 0 0, .slice none 0 0, .slice none 0 0] (0, 0) _ (heap_setRow_same _ _ #[.bool false, .int .i64 0, .int .i64 0, .int .i64 0, .int .i64 0, .int .i64 0, .int .i64 0, .int .i64 0, .int .i64 0, .int .i64 0, .int .i64 0, .int .i64 0, .string ⟨#[]⟩, .string ⟨#[]⟩, .int .i64 0, .int .i64 0, .int .i64 0, .int .i64 0, .slice none 0 0, .int .i64 0, .slice none 0 0, .slice none 0 0, .slice none 0 0] #[.bool false, .int .i64 0, .int .i64 0, .int .i64 0, .int .i64 0, .int .i64 0, .int .i64 0, .int .i64 0, .int .i64 0, .int .i64 0, .int .i64 0, .int .i64 0, .string ⟨#[]⟩, .string ⟨#[]⟩, .int .i64 0, .int .i64 0, .int .i64 0, .int .i64 0, .slice none 0 0, .int .i64 0, .slice none 0 0, .slice none 0 0, .slice none 0 0] _ HZr.out) Try.underlying57 rfl HXi.out)
    have HBf := Lib.hid (below_setRow HBx.out (Nat.le_refl _) #[.bool false, .int .i64 0, .int .i64 0, .int .i64 0, .int .i64 0, .int .i64 0, .int .i64 0, .int .i64 0, .int .i64 0, .int .i64 0, .int .i64 0, .int .i64 0, .string ⟨#[]⟩, .string ⟨#[]⟩, .int .i64 0, .int .i64 0, .int .i64 0, .int .i64 0, .slice none 0 0, .int .i64 0, .slice none 0 0, .slice none 0 0, .slice none 0 0])
    clear q
    go_wp2_with (refine wpList_store_row rfl 57 _ _ rfl w.heap.size rfl #[.bool false, .int .i64 0, .int .i64 0, .int .i64 0, .int .i64 0, .int .i64 0, .int .i64 0, .int .i64 0, .int .i64 0, .int .i64 0, .int .i64 0, .int .i64 0, .string ⟨#[]⟩, .string ⟨#[]⟩, .int .i64 0, .int .i64 0, .int .i64 0, .int .i64 0, .slice none 0 0, .int .i64 0, .slice none 0 0, .slice none 0 0, .slice none 0 0] rfl #[.bool false, .int .i64 0, .int .i64 0, .int .i64 0, .int .i64 0, .int .i64 0, .int .i64 0, .int .i64 0, .int .i64 0, .int .i64 0, .int .i64 0, .int .i64 0, .string ⟨#[]⟩, .string ⟨#[]⟩, .int .i64 0, .int .i64 0, .int .i64 0, .int .i64 0, .slice none 0 0, .int .i64 0, .slice none 0 0, .slice none 0 0, .slice none 0 0] 57 HZr.out HXi.out rfl (by rw [← Array.all_toList]; rfl) ?_)
    have hlv := HLv.out
    exact bodyPost_ret (v := .tuple #[.agg #[.bool false, .int .i64 0, .int .i64 0, .int .i64 0, .int .i64 0, .int .i64 0, .int .i64 0, .int .i64 0, .int .i64 0, .int .i64 0, .int .i64 0, .int .i64 0, .string ⟨#[]⟩, .string ⟨#[]⟩, .int .i64 0, .int .i64 0, .int .i64 0, .int .i64 0, .slice none 0 0, .int .i64 0, .slice none 0 0, .slice none 0 0, .slice none 0 0], .int .i64 er]) (by simp [results, Try.results20, asAddr, Act.put, hlv]) rfl (by unfold GrG; rw [HE6.out]; exact ⟨.agg z23, Lib.hid (by rw [HEr.out]; rfl), HBf.out, .inr ⟨by rw [HEr.out]; exact HQ.out, rfl⟩⟩)
set_option maxRecDepth 100000 in
set_option maxHeartbeats 8000000 in
theorem rget_c (s : ByteArray) (w : World) (hs : s.size ≤ 1000000000) (s0 : RSt) (g0 : gNum (byt s, 0) = (1, s0)) (hq : s0.2 = 0) :
    Calls Try.prog 20 #[.string s] w (GrG (byt s) w) := by
  obtain ⟨x0, e0⟩ := s0
  simp only at hq
  subst hq
  obtain ⟨xn, s1, g1⟩ : ∃ b t, snC.rd (x0, 0) = (b, t) := ⟨_, _, rfl⟩
  have hE : rcRd (byt s, 0) = ((true, (0, 0, 0), zInsR, xn), s1) := by
    unfold rcRd
    rw [g0]
    simp only [g1]
    rw [if_neg (by omega), if_pos trivial]
  have HE6 := Lib.hid hE
  have HIv := Lib.hid (rc_inv (byt s) (byt_range s))
  rw [hE] at HIv
  have G0 := Lib.hid g0
  have G1 := Lib.hid g1
  obtain ⟨hb1, hb2, hb3, hb4⟩ := four_boxes w s 57 [.bool false, .int .i64 0, .int .i64 0, .int .i64 0, .int .i64 0, .int .i64 0, .int .i64 0, .int .i64 0, .int .i64 0, .int .i64 0, .int .i64 0, .int .i64 0, .string ⟨#[]⟩, .string ⟨#[]⟩, .int .i64 0, .int .i64 0, .int .i64 0, .int .i64 0, .slice none 0 0, .int .i64 0, .slice none 0 0, .slice none 0 0, .slice none 0 0]
  have HE := Lib.hid hb1
  have HZ1 := Lib.hid hb2
  have HB1 := Lib.hid hb3
  have HS1 := Lib.hid hb4
  have HE0 := Lib.hid (HE.out.setRow [.bool false, .int .i64 0, .int .i64 0, .int .i64 0, .int .i64 0, .int .i64 0, .int .i64 0, .int .i64 0, .int .i64 0, .int .i64 0, .int .i64 0, .int .i64 0, .string ⟨#[]⟩, .string ⟨#[]⟩, .int .i64 0, .int .i64 0, .int .i64 0, .int .i64 0, .slice none 0 0, .int .i64 0, .slice none 0 0, .slice none 0 0, .slice none 0 0])
  have HXi0 : Hid ((Try.prog.info? 57).map (·.size) = some 23) := Lib.hid (by kernel_rfl)
  have c0 := HE0.out.ci
  clear hb1 hb2 hb3 hb4 hE g0 g1
  go_enter Try.func20, Try.ntmps20
  go_wp2_with (refine wpList_store_row rfl 57 _ _ rfl (w.heap.size + 1 + 1 + 1) rfl #[.bool false, .int .i64 0, .int .i64 0, .int .i64 0, .int .i64 0, .int .i64 0, .int .i64 0, .int .i64 0, .int .i64 0, .int .i64 0, .int .i64 0, .int .i64 0, .string ⟨#[]⟩, .string ⟨#[]⟩, .int .i64 0, .int .i64 0, .int .i64 0, .int .i64 0, .slice none 0 0, .int .i64 0, .slice none 0 0, .slice none 0 0, .slice none 0 0] rfl #[.bool false, .int .i64 0, .int .i64 0, .int .i64 0, .int .i64 0, .int .i64 0, .int .i64 0, .int .i64 0, .int .i64 0, .int .i64 0, .int .i64 0, .int .i64 0, .string ⟨#[]⟩, .string ⟨#[]⟩, .int .i64 0, .int .i64 0, .int .i64 0, .int .i64 0, .slice none 0 0, .int .i64 0, .slice none 0 0, .slice none 0 0, .slice none 0 0] 57 HE.out.bx HXi0.out rfl (by rw [← Array.all_toList]; rfl) ?_)
  clear HE
  have HE := HE0
  clear HE0
  refine (inumE (w.heap.size + 1) s _ _ _ _ HE.out.rd hs G0.out).mono ?_
  rintro e u1 ⟨he, h1, h2⟩
  rw [he.out]
  have HJ := Lib.hid (HE.out.call h1 h2)
  have ce := HJ.out.ce
  simp only at ce
  have cu := HJ.out.ci
  have y0 := HJ.out.bx.cell 0
  have z0 := HJ.out.bx.fz 0
  simp only [List.set_cons_zero, List.set_cons_succ, List.getElem?_cons_zero, List.getElem?_cons_succ] at y0
  obtain ⟨v1, hv⟩ : ∃ q, u1.setCell ⟨w.heap.size + 1 + 1 + 1, 0, none⟩ (.bool true) = q := ⟨_, rfl⟩
  have HK := Lib.hid (HJ.out.set 0 (.bool true))
  simp only [List.set_cons_zero, List.set_cons_succ] at HK
  rw [hv] at HK
  clear HE HJ c0 he h1 h2
  have c0 := HK.out.ci
  have HE := HK
  clear HK
  generalize (((w.alloc (.cells [.bool false, .int .i64 0, .int .i64 0, .int .i64 0, .int .i64 0, .int .i64 0, .int .i64 0, .int .i64 0, .int .i64 0, .int .i64 0, .int .i64 0, .int .i64 0, .string ⟨#[]⟩, .string ⟨#[]⟩, .int .i64 0, .int .i64 0, .int .i64 0, .int .i64 0, .slice none 0 0, .int .i64 0, .slice none 0 0, .slice none 0 0, .slice none 0 0].toArray 57)).alloc (.cells #[.string s, .int .i64 0, .int .i64 0] 93)).alloc (.cells #[.pointer (some ⟨w.heap.size + 1, 0, none⟩)] 95)) = W1 at HE HZ1 HB1 HS1
  go_wp2_with fail
  clear hv y0 z0 ce cu
  refine (isnap (w.heap.size + 1) s (x0, 0) _ HE.out.rd hs).mono ?_
  rintro e u2 ⟨⟨⟨m23, l24⟩, l25, l26⟩, a24, d24, f24, a25, d25, f25, a26, d26, f26, he, hr24, hr25, hr26, hy, h1, h2⟩
  rw [he.out]
  rw [G1.out] at hy h1
  have HYS := Lib.hid hy
  have HR24 := Lib.hid hr24
  have HR25 := Lib.hid hr25
  have HR26 := Lib.hid hr26
  obtain ⟨q24, hq24⟩ : ∃ q, q = v1.heap.size := ⟨_, rfl⟩
  rw [← hq24] at HR24 HR25 HR26
  have HR24b : Hid (w.heap.size + 1 + 1 + 1 < q24) := Lib.hid (by have := HE.out.sz; omega)
  clear hy hr24 hr25 hr26 hq24
  have HJ := Lib.hid (HE.out.call h1 h2)
  have HTh := Lib.hid (HJ.out.bx.there 19 4 (Nat.le_of_ble_eq_true rfl))
  obtain ⟨v2, hv⟩ : ∃ q, u2.setCells (w.heap.size + 1 + 1 + 1) 19 [.int .i64 m23, .slice a24 d24 f24, .slice a25 d25 f25, .slice a26 d26 f26] = q := ⟨_, rfl⟩
  have HK := Lib.hid (HJ.out.sets 19 [.int .i64 m23, .slice a24 d24 f24, .slice a25 d25 f25, .slice a26 d26 f26])
  simp only [splice, List.set_cons_zero, List.set_cons_succ] at HK
  rw [hv] at HK
  have HV := Lib.hid hv
  clear hv
  clear HE HJ c0 he h1 h2
  have c0 := HK.out.ci
  have HE := HK
  clear HK
  have HR24x := Lib.hid (HR24.out.sets (b := w.heap.size + 1 + 1 + 1) (by have := HR24b.out; omega) 19 [.int .i64 m23, .slice a24 d24 f24, .slice a25 d25 f25, .slice a26 d26 f26])
  rw [HV.out] at HR24x
  clear HR24
  have HR24 := HR24x
  clear HR24x
  have HR25x := Lib.hid (HR25.out.sets (b := w.heap.size + 1 + 1 + 1) (by have := HR24b.out; omega) 19 [.int .i64 m23, .slice a24 d24 f24, .slice a25 d25 f25, .slice a26 d26 f26])
  rw [HV.out] at HR25x
  clear HR25
  have HR25 := HR25x
  clear HR25x
  have HR26x := Lib.hid (HR26.out.sets (b := w.heap.size + 1 + 1 + 1) (by have := HR24b.out; omega) 19 [.int .i64 m23, .slice a24 d24 f24, .slice a25 d25 f25, .slice a26 d26 f26])
  rw [HV.out] at HR26x
  clear HR26
  have HR26 := HR26x
  clear HR26x
  go_wp2_with (refine wpList_store_nm rfl 42 _ _ rfl (w.heap.size + 1 + 1 + 1) 19 #[.int .i64 m23, .slice a24 d24 f24, .slice a25 d25 f25, .slice a26 d26 f26] rfl rfl HTh.out (by kernel_rfl) (by rw [← Array.all_toList]; rfl) HV.out ?_)
  clear HV HTh
  refine (dend (w.heap.size + 1) s _ _ HE.out.rd).mono ?_
  rintro e wx ⟨he, h1⟩
  rw [he.out]
  have HXr := Lib.hid (HE.out.bx.below h1)
  have HZr := Lib.hid ((HZ1.out.fo HE.out.fo (by omega)).below h1)
  have hv7 := HE.out.fo.size
  have hBx : Below w.heap.size w wx := by
    have f := HE.out.fo
    have b := HB1.out
    exact ⟨h1.os.trans (f.os.trans b.os), h1.tape.trans (f.tape.trans b.tape), h1.output.trans (f.output.trans b.output), Nat.le_trans b.size (Nat.le_trans f.size h1.size), fun k hk => (h1.block k (by have := b.size; omega)).trans ((f.block k (by have := b.size; omega) (by omega)).trans (b.block k hk))⟩
  have HBx := Lib.hid hBx
  have HRx := Lib.hid h1
  clear he h1 hBx c0 hv7
  have HXi : Hid ((Try.prog.info? 57).map (·.size) = some 23) := Lib.hid (by kernel_rfl)
  obtain ⟨er, her⟩ : ∃ er, endE s1 = er := ⟨_, rfl⟩
  have HEr := Lib.hid her
  rw [her]
  clear her
  by_cases q : er = 0
  · subst q
    have hEn := endE_ok HEr.out
    have HEn := Lib.hid hEn
    have HLv := Lib.hid (run_loadVar_row (wx.setRow w.heap.size #[.bool true, .int .i64 0, .int .i64 0, .int .i64 0, .int .i64 0, .int .i64 0, .int .i64 0, .int .i64 0, .int .i64 0, .int .i64 0, .int .i64 0, .int .i64 0, .string ⟨#[]⟩, .string ⟨#[]⟩, .int .i64 0, .int .i64 0, .int .i64 0, .int .i64 0, .slice none 0 0, .int .i64 m23, .slice a24 d24 f24, .slice a25 d25 f25, .slice a26 d26 f26]) _ _ _ #[.bool true, .int .i64 0, .int .i64 0, .int .i64 0, .int .i64 0, .int .i64 0, .int .i64 0, .int .i64 0, .int .i64 0, .int .i64 0, .int .i64 0, .int .i64 0, .string ⟨#[]⟩, .string ⟨#[]⟩, .int .i64 0, .int .i64 0, .int .i64 0, .int .i64 0, .slice none 0 0, .int .i64 m23, .slice a24 d24 f24, .slice a25 d25 f25, .slice a26 d26 f26] (0, 0) _ (heap_setRow_same _ _ #[.bool false, .int .i64 0, .int .i64 0, .int .i64 0, .int .i64 0, .int .i64 0, .int .i64 0, .int .i64 0, .int .i64 0, .int .i64 0, .int .i64 0, .int .i64 0, .string ⟨#[]⟩, .string ⟨#[]⟩, .int .i64 0, .int .i64 0, .int .i64 0, .int .i64 0, .slice none 0 0, .int .i64 0, .slice none 0 0, .slice none 0 0, .slice none 0 0] #[.bool true, .int .i64 0, .int .i64 0, .int .i64 0, .int .i64 0, .int .i64 0, .int .i64 0, .int .i64 0, .int .i64 0, .int .i64 0, .int .i64 0, .int .i64 0, .string ⟨#[]⟩, .string ⟨#[]⟩, .int .i64 0, .int .i64 0, .int .i64 0, .int .i64 0, .slice none 0 0, .int .i64 m23, .slice a24 d24 f24, .slice a25 d25 f25, .slice a26 d26 f26] _ HZr.out) Try.underlying57 rfl HXi.out)
    have HBf := Lib.hid (below_setRow HBx.out (Nat.le_refl _) #[.bool true, .int .i64 0, .int .i64 0, .int .i64 0, .int .i64 0, .int .i64 0, .int .i64 0, .int .i64 0, .int .i64 0, .int .i64 0, .int .i64 0, .int .i64 0, .string ⟨#[]⟩, .string ⟨#[]⟩, .int .i64 0, .int .i64 0, .int .i64 0, .int .i64 0, .slice none 0 0, .int .i64 m23, .slice a24 d24 f24, .slice a25 d25 f25, .slice a26 d26 f26])
    have HMf : Hid (∀ w'' : World, (∀ k, w.heap.size ≤ k → k < (wx.setRow w.heap.size #[.bool true, .int .i64 0, .int .i64 0, .int .i64 0, .int .i64 0, .int .i64 0, .int .i64 0, .int .i64 0, .int .i64 0, .int .i64 0, .int .i64 0, .int .i64 0, .string ⟨#[]⟩, .string ⟨#[]⟩, .int .i64 0, .int .i64 0, .int .i64 0, .int .i64 0, .slice none 0 0, .int .i64 m23, .slice a24 d24 f24, .slice a25 d25 f25, .slice a26 d26 f26]).heap.size → w''.heap[k]? = (wx.setRow w.heap.size #[.bool true, .int .i64 0, .int .i64 0, .int .i64 0, .int .i64 0, .int .i64 0, .int .i64 0, .int .i64 0, .int .i64 0, .int .i64 0, .int .i64 0, .int .i64 0, .string ⟨#[]⟩, .string ⟨#[]⟩, .int .i64 0, .int .i64 0, .int .i64 0, .int .i64 0, .slice none 0 0, .int .i64 m23, .slice a24 d24 f24, .slice a25 d25 f25, .slice a26 d26 f26]).heap[k]?) → RecIs w'' (.agg #[.bool true, .int .i64 0, .int .i64 0, .int .i64 0, .int .i64 0, .int .i64 0, .int .i64 0, .int .i64 0, .int .i64 0, .int .i64 0, .int .i64 0, .int .i64 0, .string ⟨#[]⟩, .string ⟨#[]⟩, .int .i64 0, .int .i64 0, .int .i64 0, .int .i64 0, .slice none 0 0, .int .i64 m23, .slice a24 d24 f24, .slice a25 d25 f25, .slice a26 d26 f26]) (true, (0, 0, 0), zInsR, xn)) := Lib.hid (fun w'' hw'' => by
    have z6 : s1.2 = 0 := HEn.out.1
    have en := HYS.out z6
    have ho := (HIv.out z6).1
    rw [← en] at ho
    have hk' : ∀ (N : Nat) (T : TypeId) (k : Nat), w.heap.size < N → N ≤ k → (Ty wx k 9 ∨ Ty wx k T) → w''.heap[k]? = wx.heap[k]? := fun N T k hN h hq => (hw'' k (by omega) (by rw [(sx_setRow _ w.heap.size _).size]; rcases hq with ⟨cs, fr, q⟩ | ⟨cs, fr, q⟩ <;> exact (Array.getElem?_eq_some_iff.1 q).1)).trans ((sx_setRow _ w.heap.size _).block k (by omega))
    have h24 := (HR24.out.under HRx.out).keep (fun k => hk' _ _ k (by have := HR24b.out; have := HS1.out; omega))
    have h25 := (HR25.out.under HRx.out).keep (fun k => hk' _ _ k (by have := HR24b.out; have := HS1.out; omega))
    have h26 := (HR26.out.under HRx.out).keep (fun k => hk' _ _ k (by have := HR24b.out; have := HS1.out; omega))
    unfold rcFs at ho
    simp only [if_true, snC, cfC, oks_cons, pairC_fs, oks_app] at ho
    obtain ⟨_, ⟨_, o24⟩, o25, o26⟩ := ho
    obtain ⟨rs24, g24⟩ := OwnR.row (S := numS) h24 (fun cs x _ hq => hq)
    obtain ⟨rs25, g25⟩ := OwnR.row (S := enS) h25 (fun cs x hx hq => en_row hq (oks_flat o25 x hx))
    obtain ⟨rs26, g26⟩ := OwnR.row (S := seS) h26 (fun cs x hx hq => se_row hq (oks_flat o26 x hx))
    rw [← en]
    exact ⟨_, rfl, rc_mk (x := (true, (0, 0, 0), zInsR, (m23, l24), l25, l26)) (inR_zero w'') (sn_mk (x := ((m23, l24), l25, l26)) g24 g25 g26)⟩)
    clear hEn
    go_wp2_with (first | (refine wpList_load_row rfl _ _ rfl (w.heap.size + 1 + 1 + 1) rfl 57 #[.bool true, .int .i64 0, .int .i64 0, .int .i64 0, .int .i64 0, .int .i64 0, .int .i64 0, .int .i64 0, .int .i64 0, .int .i64 0, .int .i64 0, .int .i64 0, .string ⟨#[]⟩, .string ⟨#[]⟩, .int .i64 0, .int .i64 0, .int .i64 0, .int .i64 0, .slice none 0 0, .int .i64 m23, .slice a24 d24 f24, .slice a25 d25 f25, .slice a26 d26 f26] (0, 0) _ HXr.out Try.underlying57 rfl HXi.out ?_) | (refine wpList_store_row rfl 57 _ _ rfl w.heap.size rfl #[.bool true, .int .i64 0, .int .i64 0, .int .i64 0, .int .i64 0, .int .i64 0, .int .i64 0, .int .i64 0, .int .i64 0, .int .i64 0, .int .i64 0, .int .i64 0, .string ⟨#[]⟩, .string ⟨#[]⟩, .int .i64 0, .int .i64 0, .int .i64 0, .int .i64 0, .slice none 0 0, .int .i64 m23, .slice a24 d24 f24, .slice a25 d25 f25, .slice a26 d26 f26] rfl #[.bool false, .int .i64 0, .int .i64 0, .int .i64 0, .int .i64 0, .int .i64 0, .int .i64 0, .int .i64 0, .int .i64 0, .int .i64 0, .int .i64 0, .int .i64 0, .string ⟨#[]⟩, .string ⟨#[]⟩, .int .i64 0, .int .i64 0, .int .i64 0, .int .i64 0, .slice none 0 0, .int .i64 0, .slice none 0 0, .slice none 0 0, .slice none 0 0] 57 HZr.out HXi.out rfl (by rw [← Array.all_toList]; rfl) ?_))
    have hlv := HLv.out
    exact bodyPost_ret (v := .tuple #[.agg #[.bool true, .int .i64 0, .int .i64 0, .int .i64 0, .int .i64 0, .int .i64 0, .int .i64 0, .int .i64 0, .int .i64 0, .int .i64 0, .int .i64 0, .int .i64 0, .string ⟨#[]⟩, .string ⟨#[]⟩, .int .i64 0, .int .i64 0, .int .i64 0, .int .i64 0, .slice none 0 0, .int .i64 m23, .slice a24 d24 f24, .slice a25 d25 f25, .slice a26 d26 f26], .int .i64 0]) (by simp [results, Try.results20, asAddr, Act.put, hlv]) rfl (by unfold GrG; rw [HE6.out]; exact ⟨_, Lib.hid (by rw [HEr.out]), HBf.out, .inl ⟨HEr.out, HMf.out⟩⟩)
  · have q1 : (er == 0) = false := by simpa using q
    have q2 : (er != 0) = true := by simpa using q
    have HQ := Lib.hid q
    have HLv := Lib.hid (run_loadVar_row (wx.setRow w.heap.size #[.bool false, .int .i64 0, .int .i64 0, .int .i64 0, .int .i64 0, .int .i64 0, .int .i64 0, .int .i64 0, .int .i64 0, .int .i64 0, .int .i64 0, .int .i64 0, .string ⟨#[]⟩, .string ⟨#[]⟩, .int .i64 0, .int .i64 0, .int .i64 0, .int .i64 0, .slice none 0 0, .int .i64 0, .slice none 0 0, .slice none 0 0, .slice none 0 0]) _ _ _ #[.bool false, .int .i64 0, .int .i64 0, .int .i64 0, .int .i64 0, .int .i64 0, .int .i64 0, .int .i64 0, .int .i64 0, .int .i64 0, .int .i64 0, .int .i64 0, .string ⟨#[]⟩, .string ⟨#[]⟩, .int .i64 0, .int .i64 0, .int .i64 0, .int .i64 0, .slice none 0 0, .int .i64 0, .slice none 0 0, .slice none 0 0, .slice none 0 0] (0, 0) _ (heap_setRow_same _ _ #[.bool false, .int .i64 0, .int .i64 0, .int .i64 0, .int .i64 0, .int .i64 0, .int .i64 0, .int .i64 0, .int .i64 0, .int .i64 0, .int .i64 0, .int .i64 0, .string ⟨#[]⟩, .string ⟨#[]⟩, .int .i64 0, .int .i64 0, .int .i64 0, .int .i64 0, .slice none 0 0, .int .i64 0, .slice none 0 0, .slice none 0 0, .slice none 0 0] #[.bool false, .int .i64 0, .int .i64 0, .int .i64 0, .int .i64 0, .int .i64 0, .int .i64 0, .int .i64 0, .int .i64 0, .int .i64 0, .int .i64 0, .int .i64 0, .string ⟨#[]⟩, .string ⟨#[]⟩, .int .i64 0, .int .i64 0, .int .i64 0, .int .i64 0, .slice none 0 0, .int .i64 0, .slice none 0 0, .slice none 0 0, .slice none 0 0] _ HZr.out) Try.underlying57 rfl HXi.out)
    have HBf := Lib.hid (below_setRow HBx.out (Nat.le_refl _) #[.bool false, .int .i64 0, .int .i64 0, .int .i64 0, .int .i64 0, .int .i64 0, .int .i64 0, .int .i64 0, .int .i64 0, .int .i64 0, .int .i64 0, .int .i64 0, .string ⟨#[]⟩, .string ⟨#[]⟩, .int .i64 0, .int .i64 0, .int .i64 0, .int .i64 0, .slice none 0 0, .int .i64 0, .slice none 0 0, .slice none 0 0, .slice none 0 0])
    clear q
    go_wp2_with (refine wpList_store_row rfl 57 _ _ rfl w.heap.size rfl #[.bool false, .int .i64 0, .int .i64 0, .int .i64 0, .int .i64 0, .int .i64 0, .int .i64 0, .int .i64 0, .int .i64 0, .int .i64 0, .int .i64 0, .int .i64 0, .string ⟨#[]⟩, .string ⟨#[]⟩, .int .i64 0, .int .i64 0, .int .i64 0, .int .i64 0, .slice none 0 0, .int .i64 0, .slice none 0 0, .slice none 0 0, .slice none 0 0] rfl #[.bool false, .int .i64 0, .int .i64 0, .int .i64 0, .int .i64 0, .int .i64 0, .int .i64 0, .int .i64 0, .int .i64 0, .int .i64 0, .int .i64 0, .int .i64 0, .string ⟨#[]⟩, .string ⟨#[]⟩, .int .i64 0, .int .i64 0, .int .i64 0, .int .i64 0, .slice none 0 0, .int .i64 0, .slice none 0 0, .slice none 0 0, .slice none 0 0] 57 HZr.out HXi.out rfl (by rw [← Array.all_toList]; rfl) ?_)
    have hlv := HLv.out
    exact bodyPost_ret (v := .tuple #[.agg #[.bool false, .int .i64 0, .int .i64 0, .int .i64 0, .int .i64 0, .int .i64 0, .int .i64 0, .int .i64 0, .int .i64 0, .int .i64 0, .int .i64 0, .int .i64 0, .string ⟨#[]⟩, .string ⟨#[]⟩, .int .i64 0, .int .i64 0, .int .i64 0, .int .i64 0, .slice none 0 0, .int .i64 0, .slice none 0 0, .slice none 0 0, .slice none 0 0], .int .i64 er]) (by simp [results, Try.results20, asAddr, Act.put, hlv]) rfl (by unfold GrG; rw [HE6.out]; exact ⟨.agg z23, Lib.hid (by rw [HEr.out]; rfl), HBf.out, .inr ⟨by rw [HEr.out]; exact HQ.out, rfl⟩⟩)
set_option maxRecDepth 100000 in
set_option maxHeartbeats 8000000 in
theorem rget_d (s : ByteArray) (w : World) (hs : s.size ≤ 1000000000) (s0 : RSt) (k0 : Int) (g0 : gNum (byt s, 0) = (k0, s0)) (hq : s0.2 = 0) (hk : 1 < k0) :
    Calls Try.prog 20 #[.string s] w (GrG (byt s) w) := by
  obtain ⟨x0, e0⟩ := s0
  simp only at hq
  subst hq
  have hE : rcRd (byt s, 0) = ((false, (0, 0, 0), zInsR, zSnp), (x0, 11)) := by
    unfold rcRd
    rw [g0]
    simp only
    rw [if_neg (by omega), if_neg (by omega)]
  have HE6 := Lib.hid hE
  have G0 := Lib.hid g0
  have d1 : decide (1 < k0) = true := decide_eq_true hk
  obtain ⟨hb1, hb2, hb3, hb4⟩ := four_boxes w s 57 [.bool false, .int .i64 0, .int .i64 0, .int .i64 0, .int .i64 0, .int .i64 0, .int .i64 0, .int .i64 0, .int .i64 0, .int .i64 0, .int .i64 0, .int .i64 0, .string ⟨#[]⟩, .string ⟨#[]⟩, .int .i64 0, .int .i64 0, .int .i64 0, .int .i64 0, .slice none 0 0, .int .i64 0, .slice none 0 0, .slice none 0 0, .slice none 0 0]
  have HE := Lib.hid hb1
  have HZ1 := Lib.hid hb2
  have HB1 := Lib.hid hb3
  have HS1 := Lib.hid hb4
  have HE0 := Lib.hid (HE.out.setRow [.bool false, .int .i64 0, .int .i64 0, .int .i64 0, .int .i64 0, .int .i64 0, .int .i64 0, .int .i64 0, .int .i64 0, .int .i64 0, .int .i64 0, .int .i64 0, .string ⟨#[]⟩, .string ⟨#[]⟩, .int .i64 0, .int .i64 0, .int .i64 0, .int .i64 0, .slice none 0 0, .int .i64 0, .slice none 0 0, .slice none 0 0, .slice none 0 0])
  have HXi0 : Hid ((Try.prog.info? 57).map (·.size) = some 23) := Lib.hid (by kernel_rfl)
  have c0 := HE0.out.ci
  clear hb1 hb2 hb3 hb4 hE g0
  go_enter Try.func20, Try.ntmps20
  go_wp2_with (refine wpList_store_row rfl 57 _ _ rfl (w.heap.size + 1 + 1 + 1) rfl #[.bool false, .int .i64 0, .int .i64 0, .int .i64 0, .int .i64 0, .int .i64 0, .int .i64 0, .int .i64 0, .int .i64 0, .int .i64 0, .int .i64 0, .int .i64 0, .string ⟨#[]⟩, .string ⟨#[]⟩, .int .i64 0, .int .i64 0, .int .i64 0, .int .i64 0, .slice none 0 0, .int .i64 0, .slice none 0 0, .slice none 0 0, .slice none 0 0] rfl #[.bool false, .int .i64 0, .int .i64 0, .int .i64 0, .int .i64 0, .int .i64 0, .int .i64 0, .int .i64 0, .int .i64 0, .int .i64 0, .int .i64 0, .int .i64 0, .string ⟨#[]⟩, .string ⟨#[]⟩, .int .i64 0, .int .i64 0, .int .i64 0, .int .i64 0, .slice none 0 0, .int .i64 0, .slice none 0 0, .slice none 0 0, .slice none 0 0] 57 HE.out.bx HXi0.out rfl (by rw [← Array.all_toList]; rfl) ?_)
  clear HE
  have HE := HE0
  clear HE0
  refine (inumE (w.heap.size + 1) s _ _ _ _ HE.out.rd hs G0.out).mono ?_
  rintro e u1 ⟨he, h1, h2⟩
  rw [he.out]
  have HJ := Lib.hid (HE.out.call h1 h2)
  have ce := HJ.out.ce
  simp only at ce
  have HK := HJ
  clear HE HJ c0 he h1 h2
  have c0 := HK.out.ci
  have HE := HK
  clear HK
  generalize (((w.alloc (.cells [.bool false, .int .i64 0, .int .i64 0, .int .i64 0, .int .i64 0, .int .i64 0, .int .i64 0, .int .i64 0, .int .i64 0, .int .i64 0, .int .i64 0, .int .i64 0, .string ⟨#[]⟩, .string ⟨#[]⟩, .int .i64 0, .int .i64 0, .int .i64 0, .int .i64 0, .slice none 0 0, .int .i64 0, .slice none 0 0, .slice none 0 0, .slice none 0 0].toArray 57)).alloc (.cells #[.string s, .int .i64 0, .int .i64 0] 93)).alloc (.cells #[.pointer (some ⟨w.heap.size + 1, 0, none⟩)] 95)) = W1 at HE HZ1 HB1 HS1
  have HZr := Lib.hid (HZ1.out.fo HE.out.fo (by omega))
  have hBx : Below w.heap.size w u1 := by
    have f := HE.out.fo
    have b := HB1.out
    exact ⟨f.os.trans b.os, f.tape.trans b.tape, f.output.trans b.output, Nat.le_trans b.size f.size, fun k hk => (f.block k (by have := b.size; omega) (by omega)).trans (b.block k hk)⟩
  have HBx := Lib.hid hBx
  have HXi : Hid ((Try.prog.info? 57).map (·.size) = some 23) := Lib.hid (by kernel_rfl)
  have HLv := Lib.hid (run_loadVar_row (u1.setRow w.heap.size #[.bool false, .int .i64 0, .int .i64 0, .int .i64 0, .int .i64 0, .int .i64 0, .int .i64 0, .int .i64 0, .int .i64 0, .int .i64 0, .int .i64 0, .int .i64 0, .string ⟨#[]⟩, .string ⟨#[]⟩, .int .i64 0, .int .i64 0, .int .i64 0, .int .i64 0, .slice none 0 0, .int .i64 0, .slice none 0 0, .slice none 0 0, .slice none 0 0]) _ _ _ #[.bool false, .int .i64 0, .int .i64 0, .int .i64 0, .int .i64 0, .int .i64 0, .int .i64 0, .int .i64 0, .int .i64 0, .int .i64 0, .int .i64 0, .int .i64 0, .string ⟨#[]⟩, .string ⟨#[]⟩, .int .i64 0, .int .i64 0, .int .i64 0, .int .i64 0, .slice none 0 0, .int .i64 0, .slice none 0 0, .slice none 0 0, .slice none 0 0] (0, 0) _ (heap_setRow_same _ _ #[.bool false, .int .i64 0, .int .i64 0, .int .i64 0, .int .i64 0, .int .i64 0, .int .i64 0, .int .i64 0, .int .i64 0, .int .i64 0, .int .i64 0, .int .i64 0, .string ⟨#[]⟩, .string ⟨#[]⟩, .int .i64 0, .int .i64 0, .int .i64 0, .int .i64 0, .slice none 0 0, .int .i64 0, .slice none 0 0, .slice none 0 0, .slice none 0 0] #[.bool false, .int .i64 0, .int .i64 0, .int .i64 0, .int .i64 0, .int .i64 0, .int .i64 0, .int .i64 0, .int .i64 0, .int .i64 0, .int .i64 0, .int .i64 0, .string ⟨#[]⟩, .string ⟨#[]⟩, .int .i64 0, .int .i64 0, .int .i64 0, .int .i64 0, .slice none 0 0, .int .i64 0, .slice none 0 0, .slice none 0 0, .slice none 0 0] _ HZr.out) Try.underlying57 rfl HXi.out)
  have HBf := Lib.hid (below_setRow HBx.out (Nat.le_refl _) #[.bool false, .int .i64 0, .int .i64 0, .int .i64 0, .int .i64 0, .int .i64 0, .int .i64 0, .int .i64 0, .int .i64 0, .int .i64 0, .int .i64 0, .int .i64 0, .string ⟨#[]⟩, .string ⟨#[]⟩, .int .i64 0, .int .i64 0, .int .i64 0, .int .i64 0, .slice none 0 0, .int .i64 0, .slice none 0 0, .slice none 0 0, .slice none 0 0])
  clear hBx
  go_wp2_with (refine wpList_store_row rfl 57 _ _ rfl w.heap.size rfl #[.bool false, .int .i64 0, .int .i64 0, .int .i64 0, .int .i64 0, .int .i64 0, .int .i64 0, .int .i64 0, .int .i64 0, .int .i64 0, .int .i64 0, .int .i64 0, .string ⟨#[]⟩, .string ⟨#[]⟩, .int .i64 0, .int .i64 0, .int .i64 0, .int .i64 0, .slice none 0 0, .int .i64 0, .slice none 0 0, .slice none 0 0, .slice none 0 0] rfl #[.bool false, .int .i64 0, .int .i64 0, .int .i64 0, .int .i64 0, .int .i64 0, .int .i64 0, .int .i64 0, .int .i64 0, .int .i64 0, .int .i64 0, .int .i64 0, .string ⟨#[]⟩, .string ⟨#[]⟩, .int .i64 0, .int .i64 0, .int .i64 0, .int .i64 0, .slice none 0 0, .int .i64 0, .slice none 0 0, .slice none 0 0, .slice none 0 0] 57 HZr.out HXi.out rfl (by rw [← Array.all_toList]; rfl) ?_)
  have hlv := HLv.out
  exact bodyPost_ret (v := .tuple #[.agg #[.bool false, .int .i64 0, .int .i64 0, .int .i64 0, .int .i64 0, .int .i64 0, .int .i64 0, .int .i64 0, .int .i64 0, .int .i64 0, .int .i64 0, .int .i64 0, .string ⟨#[]⟩, .string ⟨#[]⟩, .int .i64 0, .int .i64 0, .int .i64 0, .int .i64 0, .slice none 0 0, .int .i64 0, .slice none 0 0, .slice none 0 0, .slice none 0 0], .int .i64 11]) (by simp [results, Try.results20, asAddr, Act.put, hlv]) rfl (by unfold GrG; rw [HE6.out]; exact ⟨.agg z23, Lib.hid (by rw [show endE (x0, (11 : Int)) = 11 from by unfold endE; rw [if_neg (by simp)]]; rfl), HBf.out, .inr ⟨by unfold endE; rw [if_neg (by simp)]; show (11 : Int) ≠ 0; decide, rfl⟩⟩)
theorem rget (s : ByteArray) (w : World) (hs : s.size ≤ 1000000000) : Calls Try.prog 20 #[.string s] w (GrG (byt s) w) := by
  obtain ⟨k0, s0, g0⟩ : ∃ b t, gNum (byt s, 0) = (b, t) := ⟨_, _, rfl⟩
  have hp := gNum_pos (byt s, 0)
  rw [g0] at hp
  have hp : 0 ≤ k0 := hp
  by_cases q : s0.2 = 0
  · by_cases h0 : k0 = 0
    · subst h0
      exact rget_a s w hs s0 g0 q
    · by_cases h1 : k0 = 1
      · subst h1
        exact rget_c s w hs s0 g0 q
      · exact rget_d s w hs s0 k0 g0 q (by omega)
  · have h0 : k0 = 0 := by
      have h := g0
      rw [gNum_ok] at h
      simp only [Prod.mk.injEq] at h
      obtain ⟨t1, t2⟩ := h
      rw [← t1]
      exact numG_err 8 0 0 (byt s) (by have := congrArg (fun p : RSt => p.2) t2; simp only at this; rw [this]; exact q)
    subst h0
    exact rget_b s w hs s0 g0 q
end Go.Proofs.Ytllcmapgigfgoaa
namespace Go.Proofs.Ytllcmapgigfgoaa
open Go.RowKit
set_option linter.unusedSimpArgs false
set_option linter.unusedVariables false

def zMs : Msg7 := (0, 0, 0, (0, 0, 0), (0, 0), zInsR, zSnp)
theorem ms_zero (w : World) : MsgIs w (.agg z27) zMs := ⟨z27, rfl, ms_mk (x := zMs) (Nat.zero_le _) (Nat.zero_le _) row_nil row_nil row_nil row_nil⟩
def zRc : Rec4 := (false, (0, 0, 0), zInsR, zSnp)
theorem rc_zeroM (w : World) : RecIs w (.agg z23) zRc := ⟨z23, rfl, rc_mk (x := zRc) (inR_zero w) (sn_zero w)⟩
/-- What is read, or nothing. -/
def msX (xs : List Int) : Msg7 := if endE (msC.rd (xs, 0)).2 = 0 then (msC.rd (xs, 0)).1 else zMs
def rcX (xs : List Int) : Rec4 := if endE (rcRd (xs, 0)).2 = 0 then (rcRd (xs, 0)).1 else zRc
def MxP (xs : List Int) (w : World) (e : Ending) (w' : World) : Prop := ∃ cs : Array Value, Hid (e = .returned (.tuple #[.agg cs, .int .i64 (endE (msC.rd (xs, 0)).2)])) ∧ cs.size = 27 ∧ cs.all (·.oneCell') = true ∧ Below w.heap.size w w' ∧ (∀ w'' : World, (∀ k, w.heap.size ≤ k → k < w'.heap.size → w''.heap[k]? = w'.heap[k]?) → MsgIs w'' (.agg cs) (msX xs))
def RxP (xs : List Int) (w : World) (e : Ending) (w' : World) : Prop := ∃ cs : Array Value, Hid (e = .returned (.tuple #[.agg cs, .int .i64 (endE (rcRd (xs, 0)).2)])) ∧ cs.size = 23 ∧ cs.all (·.oneCell') = true ∧ Below w.heap.size w w' ∧ (∀ w'' : World, (∀ k, w.heap.size ≤ k → k < w'.heap.size → w''.heap[k]? = w'.heap[k]?) → RecIs w'' (.agg cs) (rcX xs))
theorem gm_mx {xs : List Int} {w w' : World} {e : Ending} (h : GmP xs w e w') : MxP xs w e w' := by
  obtain ⟨u, he, hb, h2⟩ := h
  have key : ∀ w'' : World, (∀ k, w.heap.size ≤ k → k < w'.heap.size → w''.heap[k]? = w'.heap[k]?) → MsgIs w'' u (msX xs) := fun w'' hw => by
    unfold msX
    rcases h2 with ⟨q, hm⟩ | ⟨q, rfl⟩
    · rw [if_pos q]; exact hm w'' hw
    · rw [if_neg q]; exact ms_zero w''
  obtain ⟨cs, rfl, hm0⟩ := key w' (fun _ _ _ => rfl)
  exact ⟨cs, he, ms_size hm0, by rw [← Array.all_toList]; exact List.all_eq_true.2 (fun v hv => msS.one hm0 v hv), hb, key⟩
theorem gr_rx {xs : List Int} {w w' : World} {e : Ending} (h : GrG xs w e w') : RxP xs w e w' := by
  obtain ⟨u, he, hb, h2⟩ := h
  have key : ∀ w'' : World, (∀ k, w.heap.size ≤ k → k < w'.heap.size → w''.heap[k]? = w'.heap[k]?) → RecIs w'' u (rcX xs) := fun w'' hw => by
    unfold rcX
    rcases h2 with ⟨q, hm⟩ | ⟨q, rfl⟩
    · rw [if_pos q]; exact hm w'' hw
    · rw [if_neg q]; exact rc_zeroM w''
  obtain ⟨cs, rfl, hm0⟩ := key w' (fun _ _ _ => rfl)
  exact ⟨cs, he, rc_size hm0, by rw [← Array.all_toList]; exact List.all_eq_true.2 (fun v hv => rcS.one hm0 v hv), hb, key⟩
theorem rchI_of {x : Ins} {y : Snp} (hx : Oks (inC.fs x)) (hy : Oks (snC.fs y)) : RchI x y := by
  have a := sml_in hx
  have b := sml_of hy
  exact ⟨by omega, by omega, fun y hy => by have := b.e2 y hy; omega, fun y hy => ⟨by have := b.e3 y hy; omega, fun t ht => by have := (b.e3 y hy).2.2 t ht; omega⟩⟩
theorem snz_oks : Oks (snC.fs zSnp) := by unfold Oks; decide +kernel
theorem inz_oks : Oks (inC.fs zInsR) := by unfold Oks; decide +kernel
theorem msX_rch (s : ByteArray) : RchI (msX (byt s)).2.2.2.2.2.1 (msX (byt s)).2.2.2.2.2.2 := by
  unfold msX
  split
  · rename_i q
    have h := (msC.inv (byt s) (byt_range s) (endE_ok q).1).1
    obtain ⟨_, h1⟩ := oks_pair h
    obtain ⟨_, h2⟩ := oks_pair h1
    obtain ⟨_, h3⟩ := oks_pair h2
    obtain ⟨_, h4⟩ := oks_pair h3
    obtain ⟨_, h5⟩ := oks_pair h4
    obtain ⟨h6, h7⟩ := oks_pair h5
    exact rchI_of h6 h7
  · exact rchI_of inz_oks snz_oks
theorem rcX_rch (s : ByteArray) : RchI (rcX (byt s)).2.2.1 (rcX (byt s)).2.2.2 ∧ RchL (rcX (byt s)).2.2.2 := by
  have key : ∀ x : Rec4, Oks (inC.fs x.2.2.1) → Oks (snC.fs x.2.2.2) → RchI x.2.2.1 x.2.2.2 ∧ RchL x.2.2.2 := fun x h1 h2 => by
    have b := sml_of h2
    exact ⟨rchI_of h1 h2, ⟨by have := b.h1; omega, by have := b.h2; omega, by have := b.h3; omega⟩⟩
  unfold rcX
  split
  · rename_i q
    have h := (rc_inv (byt s) (byt_range s) (endE_ok q).1).1
    revert h
    unfold rcRd
    split
    · intro h
      have h : Oks (rc0Fs (rc0Rd (byt s, 0)).1) := h
      obtain ⟨_, h2⟩ := (oks_cons _ _).1 h
      obtain ⟨_, h3⟩ := (oks_app _ _).1 h2
      exact key _ h3 snz_oks
    · split
      · intro h
        have h : Oks (.num 1 :: snC.fs (snC.rd (gNum (byt s, 0)).2).1) := h
        obtain ⟨_, h2⟩ := (oks_cons _ _).1 h
        exact key _ inz_oks h2
      · intro _
        exact key _ inz_oks snz_oks
  · exact key _ inz_oks snz_oks
theorem ofr_is (v : Value) (x : Rec4) (w : World) (h : RecIs w v x) : Calls Try.prog 16 #[v] w fun e w' => Hid (e = .returned v) ∧ Below w.heap.size w w' := by
  obtain ⟨cs, rfl, hs⟩ := h
  obtain ⟨a18, m18, p18, rs18, a20, m20, p20, rs20, a21, m21, p21, rs21, a22, m22, p22, rs22, hcs, _⟩ := rc_is hs
  obtain ⟨n0, ⟨n1, n2, n3⟩, ⟨n4, ⟨n5, n6⟩, ⟨n7, n8⟩, ⟨n9, n10, n11, n12, n13, n14, n15, n16⟩, n17, l18⟩, ⟨n19, l20⟩, l21, l22⟩ := x
  obtain rfl : cs = #[.bool n0, .int .i64 n1, .int .i64 n2, .int .i64 n3, .int .i64 n4, .int .i64 n5, .int .i64 n6, .int .i64 n7, .int .i64 n8, .int .i64 n9, .int .i64 n10, .int .i64 n11, .string n12, .string n13, .int .i64 n14, .int .i64 n15, .int .i64 n16, .int .i64 n17, .slice a18 m18 p18, .int .i64 n19, .slice a20 m20 p20, .slice a21 m21 p21, .slice a22 m22 p22] := by
    cases cs
    simpa [idE, inV, snV] using hcs
  refine (ofr_any n0 n1 n2 n3 n4 n5 n6 n7 n8 n9 n10 n11 n12 n13 n14 n15 n16 n17 a18 m18 p18 n19 a20 m20 p20 a21 m21 p21 a22 m22 p22 w).mono ?_
  intro e w' hq
  exact hq
/-- What the document writes of a record, whoever asks. -/
theorem put_is (x : Rec4) (hz : RchI x.2.2.1 x.2.2.2) (hl : RchL x.2.2.2) : ∃ (t : ByteArray) (b : Bool), ∀ (W : World) (v : Value), RecIs W v x → Calls Try.prog 15 #[v] W fun e w' => Hid (e = .returned (.tuple #[.string t, .bool b])) ∧ Below W.heap.size W w' := by
  by_cases q : rcGood x
  · refine ⟨txt (eF (rcFs x)), true, fun W v h => (ro_put v x W h hz hl).mono ?_⟩
    rintro e w' ⟨hb, hq⟩
    exact ⟨(hq.resolve_right (fun k => k.1 q)).2, hb⟩
  · refine ⟨⟨#[]⟩, false, fun W v h => (ro_put v x W h hz hl).mono ?_⟩
    rintro e w' ⟨hb, hq⟩
    exact ⟨(hq.resolve_left (fun k => q k.1)).2, hb⟩
theorem RecIs.kp {w w' : World} {v : Value} {x : Rec4} (h : RecIs w v x) (hb : Below w.heap.size w w') : RecIs w' v x := h.on hb
theorem below_selfX {w w1 w2 : World} (h : Below w.heap.size w w1) (k : Below w1.heap.size w1 w2) : Below w.heap.size w w2 := h.trans (k.mono h.size)
set_option maxRecDepth 100000 in
set_option maxHeartbeats 16000000 in
theorem reads_law (s : ByteArray) (w : World) (hs : s.size ≤ maxLen) : Calls Try.prog 4 #[.string s] w (TruP w) := by
  have hsm : (s.size : Int) ≤ 9223372036854775807 := by unfold maxLen at hs; omega
  clear hs
  go_enter Try.func4, Try.ntmps4
  go_wp2_with fail
  refine (works_any _).mono ?_
  rintro e w1 ⟨rfl, hb⟩
  have HB := Lib.hid hb
  clear hb
  by_cases q0 : 3000 < s.size
  · have s1 : decide ((3000 : Int) < (s.size : Int)) = true := decide_eq_true (by omega)
    have s2 : (3000 : Int) < (s.size : Int) := by omega
    have s3 : decide (3000 < s.size) = true := decide_eq_true q0
    go_wp2_with fail
    go_ret
    exact ⟨rfl, HB.out⟩
  have s1 : decide ((3000 : Int) < (s.size : Int)) = false := decide_eq_false (by omega)
  have s3 : decide (3000 < s.size) = false := decide_eq_false q0
  have HS3 := Lib.hid (show s.size ≤ 3000 by omega)
  have HS9 := Lib.hid (show s.size ≤ 1000000000 by omega)
  obtain ⟨er, her⟩ : ∃ q, endE (msC.rd (byt s, 0)).2 = q := ⟨_, rfl⟩
  obtain ⟨fr, hfr⟩ : ∃ q, endE (rcRd (byt s, 0)).2 = q := ⟨_, rfl⟩
  have HEr := Lib.hid her
  have HFr := Lib.hid hfr
  obtain ⟨X, hX⟩ : ∃ q, msX (byt s) = q := ⟨_, rfl⟩
  obtain ⟨Y, hY⟩ : ∃ q, rcX (byt s) = q := ⟨_, rfl⟩
  have HXE := Lib.hid hX
  have HYE := Lib.hid hY
  have HZX : Hid (RchI X.2.2.2.2.2.1 X.2.2.2.2.2.2) := Lib.hid (by rw [← hX]; exact msX_rch s)
  obtain ⟨t, b, hP⟩ := put_is Y (by rw [← hY]; exact (rcX_rch s).1) (by rw [← hY]; exact (rcX_rch s).2)
  have HP := Lib.hid hP
  clear her hfr hX hY q0 hP
  go_wp2_with (first | refine wpList_bytes_g (o := ⟨some 25, _, _, _, _, _⟩) rfl 9 49 _ rfl 5 Try.underlying9 Try.underlying49 Try.underlying5 _ rfl (by omega) ?_)
  intro va wa hT hz hb
  have HTa := Lib.hid hT
  clear hT hz
  have HB' := Lib.hid (HB.out.trans (hb.mono HB.out.size))
  clear hb HB
  have HB := HB'
  clear HB'
  go_wp2_with fail
  refine ((ofmsg_any _ (byt s) _ HTa.out (byt_range s) (by rw [byt_length]; have := HS3.out; omega)).mono (fun _ _ h => gm_mx h)).mono ?_
  rintro e ub ⟨csb, he, hsz, hone, hb, hm⟩
  rw [he.out, HEr.out]
  clear he
  have HIb : Hid ((Try.prog.info? 44).map (·.size) = some csb.size) := Lib.hid (by rw [hsz]; kernel_rfl)
  have HZb : Hid (((#[.int .i64 0, .int .i64 0, .int .i64 0, .int .i64 0, .int .i64 0, .int .i64 0, .int .i64 0, .int .i64 0, .int .i64 0, .int .i64 0, .int .i64 0, .int .i64 0, .int .i64 0, .int .i64 0, .int .i64 0, .int .i64 0, .string ⟨#[]⟩, .string ⟨#[]⟩, .int .i64 0, .int .i64 0, .int .i64 0, .int .i64 0, .slice none 0 0, .int .i64 0, .slice none 0 0, .slice none 0 0, .slice none 0 0] : Array Value)).size = csb.size) := Lib.hid (by rw [hsz]; rfl)
  have HOb := Lib.hid hone
  have HAb := Lib.hid (bka_new ub 44 (#[.int .i64 0, .int .i64 0, .int .i64 0, .int .i64 0, .int .i64 0, .int .i64 0, .int .i64 0, .int .i64 0, .int .i64 0, .int .i64 0, .int .i64 0, .int .i64 0, .int .i64 0, .int .i64 0, .int .i64 0, .int .i64 0, .string ⟨#[]⟩, .string ⟨#[]⟩, .int .i64 0, .int .i64 0, .int .i64 0, .int .i64 0, .slice none 0 0, .int .i64 0, .slice none 0 0, .slice none 0 0, .slice none 0 0] : Array Value))
  have HXb := Lib.hid (box_row ub 44 (#[.int .i64 0, .int .i64 0, .int .i64 0, .int .i64 0, .int .i64 0, .int .i64 0, .int .i64 0, .int .i64 0, .int .i64 0, .int .i64 0, .int .i64 0, .int .i64 0, .int .i64 0, .int .i64 0, .int .i64 0, .int .i64 0, .string ⟨#[]⟩, .string ⟨#[]⟩, .int .i64 0, .int .i64 0, .int .i64 0, .int .i64 0, .slice none 0 0, .int .i64 0, .slice none 0 0, .slice none 0 0, .slice none 0 0] : Array Value) csb)
  have hb := hb.trans ((box_below ub 44 (#[.int .i64 0, .int .i64 0, .int .i64 0, .int .i64 0, .int .i64 0, .int .i64 0, .int .i64 0, .int .i64 0, .int .i64 0, .int .i64 0, .int .i64 0, .int .i64 0, .int .i64 0, .int .i64 0, .int .i64 0, .int .i64 0, .string ⟨#[]⟩, .string ⟨#[]⟩, .int .i64 0, .int .i64 0, .int .i64 0, .int .i64 0, .slice none 0 0, .int .i64 0, .slice none 0 0, .slice none 0 0, .slice none 0 0] : Array Value) csb).mono hb.size)
  have HMb := Lib.hid (hm ((ub.alloc (.cells (#[.int .i64 0, .int .i64 0, .int .i64 0, .int .i64 0, .int .i64 0, .int .i64 0, .int .i64 0, .int .i64 0, .int .i64 0, .int .i64 0, .int .i64 0, .int .i64 0, .int .i64 0, .int .i64 0, .int .i64 0, .int .i64 0, .string ⟨#[]⟩, .string ⟨#[]⟩, .int .i64 0, .int .i64 0, .int .i64 0, .int .i64 0, .slice none 0 0, .int .i64 0, .slice none 0 0, .slice none 0 0, .slice none 0 0] : Array Value) 44)).setRow ub.heap.size csb) (fun j _ hj => (box_below ub 44 (#[.int .i64 0, .int .i64 0, .int .i64 0, .int .i64 0, .int .i64 0, .int .i64 0, .int .i64 0, .int .i64 0, .int .i64 0, .int .i64 0, .int .i64 0, .int .i64 0, .int .i64 0, .int .i64 0, .int .i64 0, .int .i64 0, .string ⟨#[]⟩, .string ⟨#[]⟩, .int .i64 0, .int .i64 0, .int .i64 0, .int .i64 0, .slice none 0 0, .int .i64 0, .slice none 0 0, .slice none 0 0, .slice none 0 0] : Array Value) csb).block j hj))
  rw [HXE.out] at HMb
  clear hsz hone hm
  have HB' := Lib.hid (HB.out.trans (hb.mono HB.out.size))
  clear hb HB
  have HB := HB'
  clear HB'
  go_wp2_with (refine wpList_store_row rfl 44 _ _ rfl ub.heap.size rfl csb rfl (#[.int .i64 0, .int .i64 0, .int .i64 0, .int .i64 0, .int .i64 0, .int .i64 0, .int .i64 0, .int .i64 0, .int .i64 0, .int .i64 0, .int .i64 0, .int .i64 0, .int .i64 0, .int .i64 0, .int .i64 0, .int .i64 0, .string ⟨#[]⟩, .string ⟨#[]⟩, .int .i64 0, .int .i64 0, .int .i64 0, .int .i64 0, .slice none 0 0, .int .i64 0, .slice none 0 0, .slice none 0 0, .slice none 0 0] : Array Value) 44 HAb.out HIb.out HZb.out HOb.out ?_)
  generalize ((ub.alloc (.cells (#[.int .i64 0, .int .i64 0, .int .i64 0, .int .i64 0, .int .i64 0, .int .i64 0, .int .i64 0, .int .i64 0, .int .i64 0, .int .i64 0, .int .i64 0, .int .i64 0, .int .i64 0, .int .i64 0, .int .i64 0, .int .i64 0, .string ⟨#[]⟩, .string ⟨#[]⟩, .int .i64 0, .int .i64 0, .int .i64 0, .int .i64 0, .slice none 0 0, .int .i64 0, .slice none 0 0, .slice none 0 0, .slice none 0 0] : Array Value) 44)).setRow ub.heap.size csb) = wb2 at *
  refine ((rofmsg s _ HS9.out).mono (fun _ _ h => gm_mx h)).mono ?_
  rintro e uc ⟨csc, he, hsz, hone, hb, hm⟩
  rw [he.out, HEr.out]
  clear he
  have HIc : Hid ((Try.prog.info? 44).map (·.size) = some csc.size) := Lib.hid (by rw [hsz]; kernel_rfl)
  have HZc : Hid (((#[.int .i64 0, .int .i64 0, .int .i64 0, .int .i64 0, .int .i64 0, .int .i64 0, .int .i64 0, .int .i64 0, .int .i64 0, .int .i64 0, .int .i64 0, .int .i64 0, .int .i64 0, .int .i64 0, .int .i64 0, .int .i64 0, .string ⟨#[]⟩, .string ⟨#[]⟩, .int .i64 0, .int .i64 0, .int .i64 0, .int .i64 0, .slice none 0 0, .int .i64 0, .slice none 0 0, .slice none 0 0, .slice none 0 0] : Array Value)).size = csc.size) := Lib.hid (by rw [hsz]; rfl)
  have HOc := Lib.hid hone
  have HAc := Lib.hid (bka_new uc 44 (#[.int .i64 0, .int .i64 0, .int .i64 0, .int .i64 0, .int .i64 0, .int .i64 0, .int .i64 0, .int .i64 0, .int .i64 0, .int .i64 0, .int .i64 0, .int .i64 0, .int .i64 0, .int .i64 0, .int .i64 0, .int .i64 0, .string ⟨#[]⟩, .string ⟨#[]⟩, .int .i64 0, .int .i64 0, .int .i64 0, .int .i64 0, .slice none 0 0, .int .i64 0, .slice none 0 0, .slice none 0 0, .slice none 0 0] : Array Value))
  have HXc := Lib.hid (box_row uc 44 (#[.int .i64 0, .int .i64 0, .int .i64 0, .int .i64 0, .int .i64 0, .int .i64 0, .int .i64 0, .int .i64 0, .int .i64 0, .int .i64 0, .int .i64 0, .int .i64 0, .int .i64 0, .int .i64 0, .int .i64 0, .int .i64 0, .string ⟨#[]⟩, .string ⟨#[]⟩, .int .i64 0, .int .i64 0, .int .i64 0, .int .i64 0, .slice none 0 0, .int .i64 0, .slice none 0 0, .slice none 0 0, .slice none 0 0] : Array Value) csc)
  have hb := hb.trans ((box_below uc 44 (#[.int .i64 0, .int .i64 0, .int .i64 0, .int .i64 0, .int .i64 0, .int .i64 0, .int .i64 0, .int .i64 0, .int .i64 0, .int .i64 0, .int .i64 0, .int .i64 0, .int .i64 0, .int .i64 0, .int .i64 0, .int .i64 0, .string ⟨#[]⟩, .string ⟨#[]⟩, .int .i64 0, .int .i64 0, .int .i64 0, .int .i64 0, .slice none 0 0, .int .i64 0, .slice none 0 0, .slice none 0 0, .slice none 0 0] : Array Value) csc).mono hb.size)
  have HMc := Lib.hid (hm ((uc.alloc (.cells (#[.int .i64 0, .int .i64 0, .int .i64 0, .int .i64 0, .int .i64 0, .int .i64 0, .int .i64 0, .int .i64 0, .int .i64 0, .int .i64 0, .int .i64 0, .int .i64 0, .int .i64 0, .int .i64 0, .int .i64 0, .int .i64 0, .string ⟨#[]⟩, .string ⟨#[]⟩, .int .i64 0, .int .i64 0, .int .i64 0, .int .i64 0, .slice none 0 0, .int .i64 0, .slice none 0 0, .slice none 0 0, .slice none 0 0] : Array Value) 44)).setRow uc.heap.size csc) (fun j _ hj => (box_below uc 44 (#[.int .i64 0, .int .i64 0, .int .i64 0, .int .i64 0, .int .i64 0, .int .i64 0, .int .i64 0, .int .i64 0, .int .i64 0, .int .i64 0, .int .i64 0, .int .i64 0, .int .i64 0, .int .i64 0, .int .i64 0, .int .i64 0, .string ⟨#[]⟩, .string ⟨#[]⟩, .int .i64 0, .int .i64 0, .int .i64 0, .int .i64 0, .slice none 0 0, .int .i64 0, .slice none 0 0, .slice none 0 0, .slice none 0 0] : Array Value) csc).block j hj))
  rw [HXE.out] at HMc
  clear hsz hone hm
  have HB' := Lib.hid (HB.out.trans (hb.mono HB.out.size))
  have HXb' := Lib.hid ((hb.block _ (Array.getElem?_eq_some_iff.1 HXb.out).1).trans HXb.out)
  have HMb' := Lib.hid (HMb.out.on hb)
  clear hb HB HXb HMb
  have HB := HB'
  have HXb := HXb'
  have HMb := HMb'
  clear HB' HXb' HMb'
  go_wp2_with (first | refine wpList_store_row rfl 44 _ _ rfl uc.heap.size rfl csc rfl (#[.int .i64 0, .int .i64 0, .int .i64 0, .int .i64 0, .int .i64 0, .int .i64 0, .int .i64 0, .int .i64 0, .int .i64 0, .int .i64 0, .int .i64 0, .int .i64 0, .int .i64 0, .int .i64 0, .int .i64 0, .int .i64 0, .string ⟨#[]⟩, .string ⟨#[]⟩, .int .i64 0, .int .i64 0, .int .i64 0, .int .i64 0, .slice none 0 0, .int .i64 0, .slice none 0 0, .slice none 0 0, .slice none 0 0] : Array Value) 44 HAc.out HIc.out HZc.out HOc.out ?_ | refine wpList_bytes_g (o := ⟨some 36, _, _, _, _, _⟩) rfl 9 49 _ rfl 5 Try.underlying9 Try.underlying49 Try.underlying5 _ rfl (by omega) ?_)
  intro vd wd hT hz hb
  have HTd := Lib.hid hT
  clear hT hz
  have hb : Below ((uc.alloc (.cells (#[.int .i64 0, .int .i64 0, .int .i64 0, .int .i64 0, .int .i64 0, .int .i64 0, .int .i64 0, .int .i64 0, .int .i64 0, .int .i64 0, .int .i64 0, .int .i64 0, .int .i64 0, .int .i64 0, .int .i64 0, .int .i64 0, .string ⟨#[]⟩, .string ⟨#[]⟩, .int .i64 0, .int .i64 0, .int .i64 0, .int .i64 0, .slice none 0 0, .int .i64 0, .slice none 0 0, .slice none 0 0, .slice none 0 0] : Array Value) 44)).setRow uc.heap.size csc).heap.size ((uc.alloc (.cells (#[.int .i64 0, .int .i64 0, .int .i64 0, .int .i64 0, .int .i64 0, .int .i64 0, .int .i64 0, .int .i64 0, .int .i64 0, .int .i64 0, .int .i64 0, .int .i64 0, .int .i64 0, .int .i64 0, .int .i64 0, .int .i64 0, .string ⟨#[]⟩, .string ⟨#[]⟩, .int .i64 0, .int .i64 0, .int .i64 0, .int .i64 0, .slice none 0 0, .int .i64 0, .slice none 0 0, .slice none 0 0, .slice none 0 0] : Array Value) 44)).setRow uc.heap.size csc) wd := by rw [box_size]; exact hb
  have HB' := Lib.hid (HB.out.trans (hb.mono HB.out.size))
  have HXb' := Lib.hid ((hb.block _ (Array.getElem?_eq_some_iff.1 HXb.out).1).trans HXb.out)
  have HMb' := Lib.hid (HMb.out.on hb)
  have HXc' := Lib.hid ((hb.block _ (Array.getElem?_eq_some_iff.1 HXc.out).1).trans HXc.out)
  have HMc' := Lib.hid (HMc.out.on hb)
  clear hb HB HXb HMb HXc HMc
  have HB := HB'
  have HXb := HXb'
  have HMb := HMb'
  have HXc := HXc'
  have HMc := HMc'
  clear HB' HXb' HMb' HXc' HMc'
  go_wp2_with fail
  refine ((get_any _ (byt s) _ HTd.out (byt_range s) (by rw [byt_length]; have := HS3.out; omega)).mono (fun _ _ h => gr_rx h)).mono ?_
  rintro e ue ⟨cse, he, hsz, hone, hb, hm⟩
  rw [he.out, HFr.out]
  clear he
  have HIe : Hid ((Try.prog.info? 46).map (·.size) = some cse.size) := Lib.hid (by rw [hsz]; kernel_rfl)
  have HZe : Hid (((#[.bool false, .int .i64 0, .int .i64 0, .int .i64 0, .int .i64 0, .int .i64 0, .int .i64 0, .int .i64 0, .int .i64 0, .int .i64 0, .int .i64 0, .int .i64 0, .string ⟨#[]⟩, .string ⟨#[]⟩, .int .i64 0, .int .i64 0, .int .i64 0, .int .i64 0, .slice none 0 0, .int .i64 0, .slice none 0 0, .slice none 0 0, .slice none 0 0] : Array Value)).size = cse.size) := Lib.hid (by rw [hsz]; rfl)
  have HOe := Lib.hid hone
  have HAe := Lib.hid (bka_new ue 46 (#[.bool false, .int .i64 0, .int .i64 0, .int .i64 0, .int .i64 0, .int .i64 0, .int .i64 0, .int .i64 0, .int .i64 0, .int .i64 0, .int .i64 0, .int .i64 0, .string ⟨#[]⟩, .string ⟨#[]⟩, .int .i64 0, .int .i64 0, .int .i64 0, .int .i64 0, .slice none 0 0, .int .i64 0, .slice none 0 0, .slice none 0 0, .slice none 0 0] : Array Value))
  have HXe := Lib.hid (box_row ue 46 (#[.bool false, .int .i64 0, .int .i64 0, .int .i64 0, .int .i64 0, .int .i64 0, .int .i64 0, .int .i64 0, .int .i64 0, .int .i64 0, .int .i64 0, .int .i64 0, .string ⟨#[]⟩, .string ⟨#[]⟩, .int .i64 0, .int .i64 0, .int .i64 0, .int .i64 0, .slice none 0 0, .int .i64 0, .slice none 0 0, .slice none 0 0, .slice none 0 0] : Array Value) cse)
  have hb := hb.trans ((box_below ue 46 (#[.bool false, .int .i64 0, .int .i64 0, .int .i64 0, .int .i64 0, .int .i64 0, .int .i64 0, .int .i64 0, .int .i64 0, .int .i64 0, .int .i64 0, .int .i64 0, .string ⟨#[]⟩, .string ⟨#[]⟩, .int .i64 0, .int .i64 0, .int .i64 0, .int .i64 0, .slice none 0 0, .int .i64 0, .slice none 0 0, .slice none 0 0, .slice none 0 0] : Array Value) cse).mono hb.size)
  have HMe := Lib.hid (hm ((ue.alloc (.cells (#[.bool false, .int .i64 0, .int .i64 0, .int .i64 0, .int .i64 0, .int .i64 0, .int .i64 0, .int .i64 0, .int .i64 0, .int .i64 0, .int .i64 0, .int .i64 0, .string ⟨#[]⟩, .string ⟨#[]⟩, .int .i64 0, .int .i64 0, .int .i64 0, .int .i64 0, .slice none 0 0, .int .i64 0, .slice none 0 0, .slice none 0 0, .slice none 0 0] : Array Value) 46)).setRow ue.heap.size cse) (fun j _ hj => (box_below ue 46 (#[.bool false, .int .i64 0, .int .i64 0, .int .i64 0, .int .i64 0, .int .i64 0, .int .i64 0, .int .i64 0, .int .i64 0, .int .i64 0, .int .i64 0, .int .i64 0, .string ⟨#[]⟩, .string ⟨#[]⟩, .int .i64 0, .int .i64 0, .int .i64 0, .int .i64 0, .slice none 0 0, .int .i64 0, .slice none 0 0, .slice none 0 0, .slice none 0 0] : Array Value) cse).block j hj))
  rw [HYE.out] at HMe
  clear hsz hone hm
  have HB' := Lib.hid (HB.out.trans (hb.mono HB.out.size))
  have HXb' := Lib.hid ((hb.block _ (Array.getElem?_eq_some_iff.1 HXb.out).1).trans HXb.out)
  have HMb' := Lib.hid (HMb.out.on hb)
  have HXc' := Lib.hid ((hb.block _ (Array.getElem?_eq_some_iff.1 HXc.out).1).trans HXc.out)
  have HMc' := Lib.hid (HMc.out.on hb)
  clear hb HB HXb HMb HXc HMc
  have HB := HB'
  have HXb := HXb'
  have HMb := HMb'
  have HXc := HXc'
  have HMc := HMc'
  clear HB' HXb' HMb' HXc' HMc'
  go_wp2_with (refine wpList_store_row rfl 46 _ _ rfl ue.heap.size rfl cse rfl (#[.bool false, .int .i64 0, .int .i64 0, .int .i64 0, .int .i64 0, .int .i64 0, .int .i64 0, .int .i64 0, .int .i64 0, .int .i64 0, .int .i64 0, .int .i64 0, .string ⟨#[]⟩, .string ⟨#[]⟩, .int .i64 0, .int .i64 0, .int .i64 0, .int .i64 0, .slice none 0 0, .int .i64 0, .slice none 0 0, .slice none 0 0, .slice none 0 0] : Array Value) 46 HAe.out HIe.out HZe.out HOe.out ?_)
  generalize ((ue.alloc (.cells (#[.bool false, .int .i64 0, .int .i64 0, .int .i64 0, .int .i64 0, .int .i64 0, .int .i64 0, .int .i64 0, .int .i64 0, .int .i64 0, .int .i64 0, .int .i64 0, .string ⟨#[]⟩, .string ⟨#[]⟩, .int .i64 0, .int .i64 0, .int .i64 0, .int .i64 0, .slice none 0 0, .int .i64 0, .slice none 0 0, .slice none 0 0, .slice none 0 0] : Array Value) 46)).setRow ue.heap.size cse) = we2 at *
  refine ((rget s _ HS9.out).mono (fun _ _ h => gr_rx h)).mono ?_
  rintro e uf ⟨csf, he, hsz, hone, hb, hm⟩
  rw [he.out, HFr.out]
  clear he
  have HIf : Hid ((Try.prog.info? 57).map (·.size) = some csf.size) := Lib.hid (by rw [hsz]; kernel_rfl)
  have HZf : Hid (((#[.bool false, .int .i64 0, .int .i64 0, .int .i64 0, .int .i64 0, .int .i64 0, .int .i64 0, .int .i64 0, .int .i64 0, .int .i64 0, .int .i64 0, .int .i64 0, .string ⟨#[]⟩, .string ⟨#[]⟩, .int .i64 0, .int .i64 0, .int .i64 0, .int .i64 0, .slice none 0 0, .int .i64 0, .slice none 0 0, .slice none 0 0, .slice none 0 0] : Array Value)).size = csf.size) := Lib.hid (by rw [hsz]; rfl)
  have HOf := Lib.hid hone
  have HAf := Lib.hid (bka_new uf 57 (#[.bool false, .int .i64 0, .int .i64 0, .int .i64 0, .int .i64 0, .int .i64 0, .int .i64 0, .int .i64 0, .int .i64 0, .int .i64 0, .int .i64 0, .int .i64 0, .string ⟨#[]⟩, .string ⟨#[]⟩, .int .i64 0, .int .i64 0, .int .i64 0, .int .i64 0, .slice none 0 0, .int .i64 0, .slice none 0 0, .slice none 0 0, .slice none 0 0] : Array Value))
  have HXf := Lib.hid (box_row uf 57 (#[.bool false, .int .i64 0, .int .i64 0, .int .i64 0, .int .i64 0, .int .i64 0, .int .i64 0, .int .i64 0, .int .i64 0, .int .i64 0, .int .i64 0, .int .i64 0, .string ⟨#[]⟩, .string ⟨#[]⟩, .int .i64 0, .int .i64 0, .int .i64 0, .int .i64 0, .slice none 0 0, .int .i64 0, .slice none 0 0, .slice none 0 0, .slice none 0 0] : Array Value) csf)
  have hb := hb.trans ((box_below uf 57 (#[.bool false, .int .i64 0, .int .i64 0, .int .i64 0, .int .i64 0, .int .i64 0, .int .i64 0, .int .i64 0, .int .i64 0, .int .i64 0, .int .i64 0, .int .i64 0, .string ⟨#[]⟩, .string ⟨#[]⟩, .int .i64 0, .int .i64 0, .int .i64 0, .int .i64 0, .slice none 0 0, .int .i64 0, .slice none 0 0, .slice none 0 0, .slice none 0 0] : Array Value) csf).mono hb.size)
  have HMf := Lib.hid (hm ((uf.alloc (.cells (#[.bool false, .int .i64 0, .int .i64 0, .int .i64 0, .int .i64 0, .int .i64 0, .int .i64 0, .int .i64 0, .int .i64 0, .int .i64 0, .int .i64 0, .int .i64 0, .string ⟨#[]⟩, .string ⟨#[]⟩, .int .i64 0, .int .i64 0, .int .i64 0, .int .i64 0, .slice none 0 0, .int .i64 0, .slice none 0 0, .slice none 0 0, .slice none 0 0] : Array Value) 57)).setRow uf.heap.size csf) (fun j _ hj => (box_below uf 57 (#[.bool false, .int .i64 0, .int .i64 0, .int .i64 0, .int .i64 0, .int .i64 0, .int .i64 0, .int .i64 0, .int .i64 0, .int .i64 0, .int .i64 0, .int .i64 0, .string ⟨#[]⟩, .string ⟨#[]⟩, .int .i64 0, .int .i64 0, .int .i64 0, .int .i64 0, .slice none 0 0, .int .i64 0, .slice none 0 0, .slice none 0 0, .slice none 0 0] : Array Value) csf).block j hj))
  rw [HYE.out] at HMf
  clear hsz hone hm
  have HB' := Lib.hid (HB.out.trans (hb.mono HB.out.size))
  have HXb' := Lib.hid ((hb.block _ (Array.getElem?_eq_some_iff.1 HXb.out).1).trans HXb.out)
  have HMb' := Lib.hid (HMb.out.on hb)
  have HXc' := Lib.hid ((hb.block _ (Array.getElem?_eq_some_iff.1 HXc.out).1).trans HXc.out)
  have HMc' := Lib.hid (HMc.out.on hb)
  have HXe' := Lib.hid ((hb.block _ (Array.getElem?_eq_some_iff.1 HXe.out).1).trans HXe.out)
  have HMe' := Lib.hid (HMe.out.on hb)
  clear hb HB HXb HMb HXc HMc HXe HMe
  have HB := HB'
  have HXb := HXb'
  have HMb := HMb'
  have HXc := HXc'
  have HMc := HMc'
  have HXe := HXe'
  have HMe := HMe'
  clear HB' HXb' HMb' HXc' HMc' HXe' HMe'
  go_wp2_with (first | refine wpList_store_row rfl 57 _ _ rfl uf.heap.size rfl csf rfl (#[.bool false, .int .i64 0, .int .i64 0, .int .i64 0, .int .i64 0, .int .i64 0, .int .i64 0, .int .i64 0, .int .i64 0, .int .i64 0, .int .i64 0, .int .i64 0, .string ⟨#[]⟩, .string ⟨#[]⟩, .int .i64 0, .int .i64 0, .int .i64 0, .int .i64 0, .slice none 0 0, .int .i64 0, .slice none 0 0, .slice none 0 0, .slice none 0 0] : Array Value) 57 HAf.out HIf.out HZf.out HOf.out ?_ | refine wpList_load_rowG rfl _ _ rfl (ue.heap.size) rfl 46 cse (0, 0) _ HXe.out Try.underlying46 rfl HIe.out ?_)
  generalize ((uf.alloc (.cells (#[.bool false, .int .i64 0, .int .i64 0, .int .i64 0, .int .i64 0, .int .i64 0, .int .i64 0, .int .i64 0, .int .i64 0, .int .i64 0, .int .i64 0, .int .i64 0, .string ⟨#[]⟩, .string ⟨#[]⟩, .int .i64 0, .int .i64 0, .int .i64 0, .int .i64 0, .slice none 0 0, .int .i64 0, .slice none 0 0, .slice none 0 0, .slice none 0 0] : Array Value) 57)).setRow uf.heap.size csf) = wf2 at *
  refine (ofr_is _ Y _ HMe.out).mono ?_
  rintro e w3 ⟨he, hb⟩
  rw [he.out]
  clear he
  have HB' := Lib.hid (HB.out.trans (hb.mono HB.out.size))
  have HXb' := Lib.hid ((hb.block _ (Array.getElem?_eq_some_iff.1 HXb.out).1).trans HXb.out)
  have HMb' := Lib.hid (HMb.out.on hb)
  have HXc' := Lib.hid ((hb.block _ (Array.getElem?_eq_some_iff.1 HXc.out).1).trans HXc.out)
  have HMc' := Lib.hid (HMc.out.on hb)
  have HXe' := Lib.hid ((hb.block _ (Array.getElem?_eq_some_iff.1 HXe.out).1).trans HXe.out)
  have HMe' := Lib.hid (HMe.out.on hb)
  have HXf' := Lib.hid ((hb.block _ (Array.getElem?_eq_some_iff.1 HXf.out).1).trans HXf.out)
  have HMf' := Lib.hid (HMf.out.on hb)
  clear hb HB HXb HMb HXc HMc HXe HMe HXf HMf
  have HB := HB'
  have HXb := HXb'
  have HMb := HMb'
  have HXc := HXc'
  have HMc := HMc'
  have HXe := HXe'
  have HMe := HMe'
  have HXf := HXf'
  have HMf := HMf'
  clear HB' HXb' HMb' HXc' HMc' HXe' HMe' HXf' HMf'
  go_wp2_with fail
  refine (HP.out _ _ HMe.out).mono ?_
  rintro e w4 ⟨he, hb⟩
  rw [he.out]
  clear he
  have HB' := Lib.hid (HB.out.trans (hb.mono HB.out.size))
  have HXb' := Lib.hid ((hb.block _ (Array.getElem?_eq_some_iff.1 HXb.out).1).trans HXb.out)
  have HMb' := Lib.hid (HMb.out.on hb)
  have HXc' := Lib.hid ((hb.block _ (Array.getElem?_eq_some_iff.1 HXc.out).1).trans HXc.out)
  have HMc' := Lib.hid (HMc.out.on hb)
  have HXe' := Lib.hid ((hb.block _ (Array.getElem?_eq_some_iff.1 HXe.out).1).trans HXe.out)
  have HMe' := Lib.hid (HMe.out.on hb)
  have HXf' := Lib.hid ((hb.block _ (Array.getElem?_eq_some_iff.1 HXf.out).1).trans HXf.out)
  have HMf' := Lib.hid (HMf.out.on hb)
  clear hb HB HXb HMb HXc HMc HXe HMe HXf HMf
  have HB := HB'
  have HXb := HXb'
  have HMb := HMb'
  have HXc := HXc'
  have HMc := HMc'
  have HXe := HXe'
  have HMe := HMe'
  have HXf := HXf'
  have HMf := HMf'
  clear HB' HXb' HMb' HXc' HMc' HXe' HMe' HXf' HMf'
  go_wp2_with (refine wpList_load_rowG rfl _ _ rfl (uf.heap.size) rfl 57 csf (0, 0) _ HXf.out Try.underlying57 rfl HIf.out ?_)
  refine (HP.out _ _ HMf.out).mono ?_
  rintro e w5 ⟨he, hb⟩
  rw [he.out]
  clear he
  have HB' := Lib.hid (HB.out.trans (hb.mono HB.out.size))
  have HXb' := Lib.hid ((hb.block _ (Array.getElem?_eq_some_iff.1 HXb.out).1).trans HXb.out)
  have HMb' := Lib.hid (HMb.out.on hb)
  have HXc' := Lib.hid ((hb.block _ (Array.getElem?_eq_some_iff.1 HXc.out).1).trans HXc.out)
  have HMc' := Lib.hid (HMc.out.on hb)
  have HXe' := Lib.hid ((hb.block _ (Array.getElem?_eq_some_iff.1 HXe.out).1).trans HXe.out)
  have HMe' := Lib.hid (HMe.out.on hb)
  have HXf' := Lib.hid ((hb.block _ (Array.getElem?_eq_some_iff.1 HXf.out).1).trans HXf.out)
  have HMf' := Lib.hid (HMf.out.on hb)
  clear hb HB HXb HMb HXc HMc HXe HMe HXf HMf
  have HB := HB'
  have HXb := HXb'
  have HMb := HMb'
  have HXc := HXc'
  have HMc := HMc'
  have HXe := HXe'
  have HMe := HMe'
  have HXf := HXf'
  have HMf := HMf'
  clear HB' HXb' HMb' HXc' HMc' HXe' HMe' HXf' HMf'
  have e1 : (er == er) = true := by simp
  have e2 : (fr == fr) = true := by simp
  have e3 : (t.toList == t.toList) = true := by simp
  have e4 : (b == b) = true := by simp
  obtain ⟨tm, htm⟩ : ∃ q, txM (msC.fs X) = q := ⟨_, rfl⟩
  have e5 : (tm.toList == tm.toList) = true := by simp
  have HTm := Lib.hid htm
  clear htm
  go_upto_region 12 with fail
  generalize hw5 : w5 = wA at *
  clear hw5
  have HCb : Hid (∀ W, Below wA.heap.size wA W → Calls Try.prog 21 #[.agg csb] W (fun e w' => Hid (e = .returned (.string tm)) ∧ Below W.heap.size W w')) := Lib.hid (fun W hW => (ro_texts _ X W (HMb.out.on hW) HZX.out).mono (fun e w' h => ⟨Lib.hid (by have := h.1.out; rw [HTm.out] at this; exact this), h.2⟩))
  have HCc : Hid (∀ W, Below wA.heap.size wA W → Calls Try.prog 21 #[.agg csc] W (fun e w' => Hid (e = .returned (.string tm)) ∧ Below W.heap.size W w')) := Lib.hid (fun W hW => (ro_texts _ X W (HMc.out.on hW) HZX.out).mono (fun e w' h => ⟨Lib.hid (by have := h.1.out; rw [HTm.out] at this; exact this), h.2⟩))
  refine wp_region_held_drew (S := fun w' => Below wA.heap.size wA w') (by kernel_rfl) ?_ (fun hHeld => ?_)
  · (first | exact Below.refl _ _ | exact (Below.refl _ _).drew | assumption | exact below_selfX (by assumption) (by assumption))
  refine wpAnyH_take (i := 0) (v := ?_) rfl (by kernel_rfl) (by kernel_rfl) (by kernel_rfl) (fun _ _ _ h => h) (Or.inl ⟨by rfl, ?_⟩) (by assumption) ?_
  rotate_left
  · (intro w hSw; (try dsimp only at hSw); go_simp; try rfl)
  try simp only [Act.put, List.setIfInBounds_toArray, List.set_cons_zero, List.set_cons_succ, List.getElem_toArray, List.getElem_cons_zero, List.getElem_cons_succ]
  refine wpAnyH_take (i := 1) (v := ?_) rfl (by kernel_rfl) (by kernel_rfl) (by kernel_rfl) (fun _ _ _ h => h) (Or.inl ⟨by rfl, ?_⟩) (by assumption) ?_
  rotate_left
  · (intro w hSw; (try dsimp only at hSw); go_simp; try rfl)
  try simp only [Act.put, List.setIfInBounds_toArray, List.set_cons_zero, List.set_cons_succ, List.getElem_toArray, List.getElem_cons_zero, List.getElem_cons_succ]
  refine wpAnyH_take (i := 2) (v := ?_) rfl (by kernel_rfl) (by kernel_rfl) (by kernel_rfl) (fun _ _ _ h => h) (Or.inl ⟨by rfl, ?_⟩) (by assumption) ?_
  rotate_left
  · (intro w hSw; (try dsimp only at hSw); go_simp; try rfl)
  try simp only [Act.put, List.setIfInBounds_toArray, List.set_cons_zero, List.set_cons_succ, List.getElem_toArray, List.getElem_cons_zero, List.getElem_cons_succ]
  refine wpAnyH_take (i := 3) (v := ?_) rfl (by kernel_rfl) (by kernel_rfl) (by kernel_rfl) (fun _ _ _ h => h) (Or.inl ⟨by rfl, ?_⟩) (by assumption) ?_
  rotate_left
  · (intro w hSw; (try dsimp only at hSw); go_simp; try rfl)
  try simp only [Act.put, List.setIfInBounds_toArray, List.set_cons_zero, List.set_cons_succ, List.getElem_toArray, List.getElem_cons_zero, List.getElem_cons_succ]
  refine wpAnyH_take (i := 4) (v := ?_) rfl (by kernel_rfl) (by kernel_rfl) (by kernel_rfl) (fun _ _ _ h => h) (Or.inl ⟨by rfl, ?_⟩) (by assumption) ?_
  rotate_left
  · (intro w hSw; (try dsimp only at hSw); go_simp; try rfl)
  try simp only [Act.put, List.setIfInBounds_toArray, List.set_cons_zero, List.set_cons_succ, List.getElem_toArray, List.getElem_cons_zero, List.getElem_cons_succ]
  refine wpAnyH_take (i := 5) (v := ?_) rfl (by kernel_rfl) (by kernel_rfl) (by kernel_rfl) (fun _ _ _ h => h) (Or.inl ⟨by rfl, ?_⟩) (by assumption) ?_
  rotate_left
  · (intro w hSw; (try dsimp only at hSw); go_simp; try rfl)
  try simp only [Act.put, List.setIfInBounds_toArray, List.set_cons_zero, List.set_cons_succ, List.getElem_toArray, List.getElem_cons_zero, List.getElem_cons_succ]
  refine wpAnyH_take (i := 6) (v := ?_) rfl (by kernel_rfl) (by kernel_rfl) (by kernel_rfl) (fun _ _ _ h => h) (Or.inl ⟨by rfl, ?_⟩) (by assumption) ?_
  rotate_left
  · (intro w hSw; (try dsimp only at hSw); go_simp; try rfl)
  try simp only [Act.put, List.setIfInBounds_toArray, List.set_cons_zero, List.set_cons_succ, List.getElem_toArray, List.getElem_cons_zero, List.getElem_cons_succ]
  refine wpAnyH_ready (rs := [7, 9]) (by kernel_rfl) (by simp) ?_
  refine (AllReadyH.cons rfl (fun K hK => ?_) (AllReadyH.cons rfl (fun K hK => ?_) AllReadyH.nil))
  ·
    refine step_loadC (by rfl) _ _ rfl (ub.heap.size) rfl 44 csb (0, 0) _ (((by assumption : Below wA.heap.size wA _).block _ (Array.getElem?_eq_some_iff.1 HXb.out).1).trans HXb.out) Try.underlying44 HIb.out ?_
    refine hK.out _ _ ?_ (fun hHeld => ?_)
    · (first | exact Below.refl _ _ | exact (Below.refl _ _).drew | assumption | exact below_selfX (by assumption) (by assumption))
    clear hK K
    try simp only [Act.put, List.setIfInBounds_toArray, List.set_cons_zero, List.set_cons_succ, List.getElem_toArray, List.getElem_cons_zero, List.getElem_cons_succ]
    refine wpAnyH_ready (rs := [8, 9]) (by kernel_rfl) (by simp) ?_
    refine (AllReadyH.cons rfl (fun K hK => ?_) (AllReadyH.cons rfl (fun K hK => ?_) AllReadyH.nil))
    ·
      go_simp
      (go_at_call 21; refine (HCb.out _ (by assumption)).mono ?_; rintro e y ⟨he, hy⟩; rw [he.out]; clear he; have hy := below_selfX (by assumption) hy)
      refine hK.out _ _ ?_ (fun hHeld => ?_)
      · (first | exact Below.refl _ _ | exact (Below.refl _ _).drew | assumption | exact below_selfX (by assumption) (by assumption))
      clear hK K
      try simp only [Act.put, List.setIfInBounds_toArray, List.set_cons_zero, List.set_cons_succ, List.getElem_toArray, List.getElem_cons_zero, List.getElem_cons_succ]
      refine wpAnyH_ready (rs := [9]) (by kernel_rfl) (by simp) ?_
      refine (AllReadyH.cons rfl (fun K hK => ?_) AllReadyH.nil)
      refine step_loadC (by rfl) _ _ rfl (uc.heap.size) rfl 44 csc (0, 0) _ (((by assumption : Below wA.heap.size wA _).block _ (Array.getElem?_eq_some_iff.1 HXc.out).1).trans HXc.out) Try.underlying44 HIc.out ?_
      refine hK.out _ _ ?_ (fun hHeld => ?_)
      · (first | exact Below.refl _ _ | exact (Below.refl _ _).drew | assumption | exact below_selfX (by assumption) (by assumption))
      clear hK K
      try simp only [Act.put, List.setIfInBounds_toArray, List.set_cons_zero, List.set_cons_succ, List.getElem_toArray, List.getElem_cons_zero, List.getElem_cons_succ]
      refine wpAnyH_ready (rs := [10]) (by kernel_rfl) (by simp) ?_
      refine (AllReadyH.cons rfl (fun K hK => ?_) AllReadyH.nil)
      go_simp
      (go_at_call 21; refine (HCc.out _ (by assumption)).mono ?_; rintro e y ⟨he, hy⟩; rw [he.out]; clear he; have hy := below_selfX (by assumption) hy)
      refine hK.out _ _ ?_ (fun hHeld => ?_)
      · (first | exact Below.refl _ _ | exact (Below.refl _ _).drew | assumption | exact below_selfX (by assumption) (by assumption))
      clear hK K
      try simp only [Act.put, List.setIfInBounds_toArray, List.set_cons_zero, List.set_cons_succ, List.getElem_toArray, List.getElem_cons_zero, List.getElem_cons_succ]
      refine wpAnyH_take (i := 11) (v := ?_) rfl (by kernel_rfl) (by kernel_rfl) (by kernel_rfl) (fun _ _ _ h => h) (Or.inl ⟨by rfl, ?_⟩) (by assumption) ?_
      rotate_left
      · (intro w hSw; (try dsimp only at hSw); go_simp; try rfl)
      try simp only [Act.put, List.setIfInBounds_toArray, List.set_cons_zero, List.set_cons_succ, List.getElem_toArray, List.getElem_cons_zero, List.getElem_cons_succ]
      refine wpAnyH_take (i := 12) (v := ?_) rfl (by kernel_rfl) (by kernel_rfl) (by kernel_rfl) (fun _ _ _ h => h) (Or.inl ⟨by rfl, ?_⟩) (by assumption) ?_
      rotate_left
      · (intro w hSw; (try dsimp only at hSw); go_simp; try rfl)
      try simp only [Act.put, List.setIfInBounds_toArray, List.set_cons_zero, List.set_cons_succ, List.getElem_toArray, List.getElem_cons_zero, List.getElem_cons_succ]
      refine wpAnyH_take (i := 13) (v := ?_) rfl (by kernel_rfl) (by kernel_rfl) (by kernel_rfl) (fun _ _ _ h => h) (Or.inl ⟨by rfl, ?_⟩) (by assumption) ?_
      rotate_left
      · (intro w hSw; (try dsimp only at hSw); go_simp; try rfl)
      try simp only [Act.put, List.setIfInBounds_toArray, List.set_cons_zero, List.set_cons_succ, List.getElem_toArray, List.getElem_cons_zero, List.getElem_cons_succ]
      refine wpAnyH_take (i := 14) (v := ?_) rfl (by kernel_rfl) (by kernel_rfl) (by kernel_rfl) (fun _ _ _ h => h) (Or.inl ⟨by rfl, ?_⟩) (by assumption) ?_
      rotate_left
      · (intro w hSw; (try dsimp only at hSw); go_simp; try rfl)
      try simp only [Act.put, List.setIfInBounds_toArray, List.set_cons_zero, List.set_cons_succ, List.getElem_toArray, List.getElem_cons_zero, List.getElem_cons_succ]
      refine wpAnyH_take (i := 15) (v := ?_) rfl (by kernel_rfl) (by kernel_rfl) (by kernel_rfl) (fun _ _ _ h => h) (Or.inl ⟨by rfl, ?_⟩) (by assumption) ?_
      rotate_left
      · (intro w hSw; (try dsimp only at hSw); go_simp; try rfl)
      try simp only [Act.put, List.setIfInBounds_toArray, List.set_cons_zero, List.set_cons_succ, List.getElem_toArray, List.getElem_cons_zero, List.getElem_cons_succ]
      refine wpAnyH_take (i := 16) (v := ?_) rfl (by kernel_rfl) (by kernel_rfl) (by kernel_rfl) (fun _ _ _ h => h) (Or.inl ⟨by rfl, ?_⟩) (by assumption) ?_
      rotate_left
      · (intro w hSw; (try dsimp only at hSw); go_simp; try rfl)
      try simp only [Act.put, List.setIfInBounds_toArray, List.set_cons_zero, List.set_cons_succ, List.getElem_toArray, List.getElem_cons_zero, List.getElem_cons_succ]
      refine wpAnyH_take (i := 17) (v := ?_) rfl (by kernel_rfl) (by kernel_rfl) (by kernel_rfl) (fun _ _ _ h => h) (Or.inl ⟨by rfl, ?_⟩) (by assumption) ?_
      rotate_left
      · (intro w hSw; (try dsimp only at hSw); go_simp; try rfl)
      try simp only [Act.put, List.setIfInBounds_toArray, List.set_cons_zero, List.set_cons_succ, List.getElem_toArray, List.getElem_cons_zero, List.getElem_cons_succ]
      refine wpAnyH_take (i := 18) (v := ?_) rfl (by kernel_rfl) (by kernel_rfl) (by kernel_rfl) (fun _ _ _ h => h) (Or.inl ⟨by rfl, ?_⟩) (by assumption) ?_
      rotate_left
      · (intro w hSw; (try dsimp only at hSw); go_simp; try rfl)
      try simp only [Act.put, List.setIfInBounds_toArray, List.set_cons_zero, List.set_cons_succ, List.getElem_toArray, List.getElem_cons_zero, List.getElem_cons_succ]
      refine wpAnyH_take (i := 19) (v := ?_) rfl (by kernel_rfl) (by kernel_rfl) (by kernel_rfl) (fun _ _ _ h => h) (Or.inl ⟨by rfl, ?_⟩) (by assumption) ?_
      rotate_left
      · (intro w hSw; (try dsimp only at hSw); go_simp; try rfl)
      try simp only [Act.put, List.setIfInBounds_toArray, List.set_cons_zero, List.set_cons_succ, List.getElem_toArray, List.getElem_cons_zero, List.getElem_cons_succ]
      refine wpAnyH_take (i := 20) (v := ?_) rfl (by kernel_rfl) (by kernel_rfl) (by kernel_rfl) (fun _ _ _ h => h) (Or.inl ⟨by rfl, ?_⟩) (by assumption) ?_
      rotate_left
      · (intro w hSw; (try dsimp only at hSw); go_simp; try rfl)
      try simp only [Act.put, List.setIfInBounds_toArray, List.set_cons_zero, List.set_cons_succ, List.getElem_toArray, List.getElem_cons_zero, List.getElem_cons_succ]
      refine wpAnyH_take (i := 21) (v := ?_) rfl (by kernel_rfl) (by kernel_rfl) (by kernel_rfl) (fun _ _ _ h => h) (Or.inl ⟨by rfl, ?_⟩) (by assumption) ?_
      rotate_left
      · (intro w hSw; (try dsimp only at hSw); go_simp; try rfl)
      try simp only [Act.put, List.setIfInBounds_toArray, List.set_cons_zero, List.set_cons_succ, List.getElem_toArray, List.getElem_cons_zero, List.getElem_cons_succ]
      refine wpAnyH_take (i := 22) (v := ?_) rfl (by kernel_rfl) (by kernel_rfl) (by kernel_rfl) (fun _ _ _ h => h) (Or.inl ⟨by rfl, ?_⟩) (by assumption) ?_
      rotate_left
      · (intro w hSw; (try dsimp only at hSw); go_simp; try rfl)
      try simp only [Act.put, List.setIfInBounds_toArray, List.set_cons_zero, List.set_cons_succ, List.getElem_toArray, List.getElem_cons_zero, List.getElem_cons_succ]
      refine wpAnyH_take (i := 23) (v := ?_) rfl (by kernel_rfl) (by kernel_rfl) (by kernel_rfl) (fun _ _ _ h => h) (Or.inl ⟨by rfl, ?_⟩) (by assumption) ?_
      rotate_left
      · (intro w hSw; (try dsimp only at hSw); go_simp; try rfl)
      try simp only [Act.put, List.setIfInBounds_toArray, List.set_cons_zero, List.set_cons_succ, List.getElem_toArray, List.getElem_cons_zero, List.getElem_cons_succ]
      refine wpAnyH_take (i := 24) (v := ?_) rfl (by kernel_rfl) (by kernel_rfl) (by kernel_rfl) (fun _ _ _ h => h) (Or.inl ⟨by rfl, ?_⟩) (by assumption) ?_
      rotate_left
      · (intro w hSw; (try dsimp only at hSw); go_simp; try rfl)
      try simp only [Act.put, List.setIfInBounds_toArray, List.set_cons_zero, List.set_cons_succ, List.getElem_toArray, List.getElem_cons_zero, List.getElem_cons_succ]
      refine wpAnyH_take (i := 25) (v := ?_) rfl (by kernel_rfl) (by kernel_rfl) (by kernel_rfl) (fun _ _ _ h => h) (Or.inl ⟨by rfl, ?_⟩) (by assumption) ?_
      rotate_left
      · (intro w hSw; (try dsimp only at hSw); go_simp; try rfl)
      try simp only [Act.put, List.setIfInBounds_toArray, List.set_cons_zero, List.set_cons_succ, List.getElem_toArray, List.getElem_cons_zero, List.getElem_cons_succ]
      refine wpAnyH_take (i := 26) (v := ?_) rfl (by kernel_rfl) (by kernel_rfl) (by kernel_rfl) (fun _ _ _ h => h) (Or.inl ⟨by rfl, ?_⟩) (by assumption) ?_
      rotate_left
      · (intro w hSw; (try dsimp only at hSw); go_simp; try rfl)
      try simp only [Act.put, List.setIfInBounds_toArray, List.set_cons_zero, List.set_cons_succ, List.getElem_toArray, List.getElem_cons_zero, List.getElem_cons_succ]
      refine wpAnyH_take (i := 27) (v := ?_) rfl (by kernel_rfl) (by kernel_rfl) (by kernel_rfl) (fun _ _ _ h => h) (Or.inl ⟨by rfl, ?_⟩) (by assumption) ?_
      rotate_left
      · (intro w hSw; (try dsimp only at hSw); go_simp; try rfl)
      try simp only [Act.put, List.setIfInBounds_toArray, List.set_cons_zero, List.set_cons_succ, List.getElem_toArray, List.getElem_cons_zero, List.getElem_cons_succ]
      refine wpAnyH_take (i := 28) (v := ?_) rfl (by kernel_rfl) (by kernel_rfl) (by kernel_rfl) (fun _ _ _ h => h) (Or.inl ⟨by rfl, ?_⟩) (by assumption) ?_
      rotate_left
      · (intro w hSw; (try dsimp only at hSw); go_simp; try rfl)
      try simp only [Act.put, List.setIfInBounds_toArray, List.set_cons_zero, List.set_cons_succ, List.getElem_toArray, List.getElem_cons_zero, List.getElem_cons_succ]
      refine wpAnyH_done (by kernel_rfl) ?_ _
      go_wp2_with fail
      go_ret
      exact ⟨by simp, HB.out.trans ((by assumption : Below wA.heap.size wA _).mono HB.out.size)⟩
    ·
      refine step_loadC (by rfl) _ _ rfl (uc.heap.size) rfl 44 csc (0, 0) _ (((by assumption : Below wA.heap.size wA _).block _ (Array.getElem?_eq_some_iff.1 HXc.out).1).trans HXc.out) Try.underlying44 HIc.out ?_
      refine hK.out _ _ ?_ (fun hHeld => ?_)
      · (first | exact Below.refl _ _ | exact (Below.refl _ _).drew | assumption | exact below_selfX (by assumption) (by assumption))
      clear hK K
      try simp only [Act.put, List.setIfInBounds_toArray, List.set_cons_zero, List.set_cons_succ, List.getElem_toArray, List.getElem_cons_zero, List.getElem_cons_succ]
      refine wpAnyH_ready (rs := [8]) (by kernel_rfl) (by simp) ?_
      refine (AllReadyH.cons rfl (fun K hK => ?_) AllReadyH.nil)
      go_simp
      (go_at_call 21; refine (HCb.out _ (by assumption)).mono ?_; rintro e y ⟨he, hy⟩; rw [he.out]; clear he; have hy := below_selfX (by assumption) hy)
      refine hK.out _ _ ?_ (fun hHeld => ?_)
      · (first | exact Below.refl _ _ | exact (Below.refl _ _).drew | assumption | exact below_selfX (by assumption) (by assumption))
      clear hK K
      try simp only [Act.put, List.setIfInBounds_toArray, List.set_cons_zero, List.set_cons_succ, List.getElem_toArray, List.getElem_cons_zero, List.getElem_cons_succ]
      refine wpAnyH_ready (rs := [10]) (by kernel_rfl) (by simp) ?_
      refine (AllReadyH.cons rfl (fun K hK => ?_) AllReadyH.nil)
      go_simp
      (go_at_call 21; refine (HCc.out _ (by assumption)).mono ?_; rintro e y ⟨he, hy⟩; rw [he.out]; clear he; have hy := below_selfX (by assumption) hy)
      refine hK.out _ _ ?_ (fun hHeld => ?_)
      · (first | exact Below.refl _ _ | exact (Below.refl _ _).drew | assumption | exact below_selfX (by assumption) (by assumption))
      clear hK K
      try simp only [Act.put, List.setIfInBounds_toArray, List.set_cons_zero, List.set_cons_succ, List.getElem_toArray, List.getElem_cons_zero, List.getElem_cons_succ]
      refine wpAnyH_take (i := 11) (v := ?_) rfl (by kernel_rfl) (by kernel_rfl) (by kernel_rfl) (fun _ _ _ h => h) (Or.inl ⟨by rfl, ?_⟩) (by assumption) ?_
      rotate_left
      · (intro w hSw; (try dsimp only at hSw); go_simp; try rfl)
      try simp only [Act.put, List.setIfInBounds_toArray, List.set_cons_zero, List.set_cons_succ, List.getElem_toArray, List.getElem_cons_zero, List.getElem_cons_succ]
      refine wpAnyH_take (i := 12) (v := ?_) rfl (by kernel_rfl) (by kernel_rfl) (by kernel_rfl) (fun _ _ _ h => h) (Or.inl ⟨by rfl, ?_⟩) (by assumption) ?_
      rotate_left
      · (intro w hSw; (try dsimp only at hSw); go_simp; try rfl)
      try simp only [Act.put, List.setIfInBounds_toArray, List.set_cons_zero, List.set_cons_succ, List.getElem_toArray, List.getElem_cons_zero, List.getElem_cons_succ]
      refine wpAnyH_take (i := 13) (v := ?_) rfl (by kernel_rfl) (by kernel_rfl) (by kernel_rfl) (fun _ _ _ h => h) (Or.inl ⟨by rfl, ?_⟩) (by assumption) ?_
      rotate_left
      · (intro w hSw; (try dsimp only at hSw); go_simp; try rfl)
      try simp only [Act.put, List.setIfInBounds_toArray, List.set_cons_zero, List.set_cons_succ, List.getElem_toArray, List.getElem_cons_zero, List.getElem_cons_succ]
      refine wpAnyH_take (i := 14) (v := ?_) rfl (by kernel_rfl) (by kernel_rfl) (by kernel_rfl) (fun _ _ _ h => h) (Or.inl ⟨by rfl, ?_⟩) (by assumption) ?_
      rotate_left
      · (intro w hSw; (try dsimp only at hSw); go_simp; try rfl)
      try simp only [Act.put, List.setIfInBounds_toArray, List.set_cons_zero, List.set_cons_succ, List.getElem_toArray, List.getElem_cons_zero, List.getElem_cons_succ]
      refine wpAnyH_take (i := 15) (v := ?_) rfl (by kernel_rfl) (by kernel_rfl) (by kernel_rfl) (fun _ _ _ h => h) (Or.inl ⟨by rfl, ?_⟩) (by assumption) ?_
      rotate_left
      · (intro w hSw; (try dsimp only at hSw); go_simp; try rfl)
      try simp only [Act.put, List.setIfInBounds_toArray, List.set_cons_zero, List.set_cons_succ, List.getElem_toArray, List.getElem_cons_zero, List.getElem_cons_succ]
      refine wpAnyH_take (i := 16) (v := ?_) rfl (by kernel_rfl) (by kernel_rfl) (by kernel_rfl) (fun _ _ _ h => h) (Or.inl ⟨by rfl, ?_⟩) (by assumption) ?_
      rotate_left
      · (intro w hSw; (try dsimp only at hSw); go_simp; try rfl)
      try simp only [Act.put, List.setIfInBounds_toArray, List.set_cons_zero, List.set_cons_succ, List.getElem_toArray, List.getElem_cons_zero, List.getElem_cons_succ]
      refine wpAnyH_take (i := 17) (v := ?_) rfl (by kernel_rfl) (by kernel_rfl) (by kernel_rfl) (fun _ _ _ h => h) (Or.inl ⟨by rfl, ?_⟩) (by assumption) ?_
      rotate_left
      · (intro w hSw; (try dsimp only at hSw); go_simp; try rfl)
      try simp only [Act.put, List.setIfInBounds_toArray, List.set_cons_zero, List.set_cons_succ, List.getElem_toArray, List.getElem_cons_zero, List.getElem_cons_succ]
      refine wpAnyH_take (i := 18) (v := ?_) rfl (by kernel_rfl) (by kernel_rfl) (by kernel_rfl) (fun _ _ _ h => h) (Or.inl ⟨by rfl, ?_⟩) (by assumption) ?_
      rotate_left
      · (intro w hSw; (try dsimp only at hSw); go_simp; try rfl)
      try simp only [Act.put, List.setIfInBounds_toArray, List.set_cons_zero, List.set_cons_succ, List.getElem_toArray, List.getElem_cons_zero, List.getElem_cons_succ]
      refine wpAnyH_take (i := 19) (v := ?_) rfl (by kernel_rfl) (by kernel_rfl) (by kernel_rfl) (fun _ _ _ h => h) (Or.inl ⟨by rfl, ?_⟩) (by assumption) ?_
      rotate_left
      · (intro w hSw; (try dsimp only at hSw); go_simp; try rfl)
      try simp only [Act.put, List.setIfInBounds_toArray, List.set_cons_zero, List.set_cons_succ, List.getElem_toArray, List.getElem_cons_zero, List.getElem_cons_succ]
      refine wpAnyH_take (i := 20) (v := ?_) rfl (by kernel_rfl) (by kernel_rfl) (by kernel_rfl) (fun _ _ _ h => h) (Or.inl ⟨by rfl, ?_⟩) (by assumption) ?_
      rotate_left
      · (intro w hSw; (try dsimp only at hSw); go_simp; try rfl)
      try simp only [Act.put, List.setIfInBounds_toArray, List.set_cons_zero, List.set_cons_succ, List.getElem_toArray, List.getElem_cons_zero, List.getElem_cons_succ]
      refine wpAnyH_take (i := 21) (v := ?_) rfl (by kernel_rfl) (by kernel_rfl) (by kernel_rfl) (fun _ _ _ h => h) (Or.inl ⟨by rfl, ?_⟩) (by assumption) ?_
      rotate_left
      · (intro w hSw; (try dsimp only at hSw); go_simp; try rfl)
      try simp only [Act.put, List.setIfInBounds_toArray, List.set_cons_zero, List.set_cons_succ, List.getElem_toArray, List.getElem_cons_zero, List.getElem_cons_succ]
      refine wpAnyH_take (i := 22) (v := ?_) rfl (by kernel_rfl) (by kernel_rfl) (by kernel_rfl) (fun _ _ _ h => h) (Or.inl ⟨by rfl, ?_⟩) (by assumption) ?_
      rotate_left
      · (intro w hSw; (try dsimp only at hSw); go_simp; try rfl)
      try simp only [Act.put, List.setIfInBounds_toArray, List.set_cons_zero, List.set_cons_succ, List.getElem_toArray, List.getElem_cons_zero, List.getElem_cons_succ]
      refine wpAnyH_take (i := 23) (v := ?_) rfl (by kernel_rfl) (by kernel_rfl) (by kernel_rfl) (fun _ _ _ h => h) (Or.inl ⟨by rfl, ?_⟩) (by assumption) ?_
      rotate_left
      · (intro w hSw; (try dsimp only at hSw); go_simp; try rfl)
      try simp only [Act.put, List.setIfInBounds_toArray, List.set_cons_zero, List.set_cons_succ, List.getElem_toArray, List.getElem_cons_zero, List.getElem_cons_succ]
      refine wpAnyH_take (i := 24) (v := ?_) rfl (by kernel_rfl) (by kernel_rfl) (by kernel_rfl) (fun _ _ _ h => h) (Or.inl ⟨by rfl, ?_⟩) (by assumption) ?_
      rotate_left
      · (intro w hSw; (try dsimp only at hSw); go_simp; try rfl)
      try simp only [Act.put, List.setIfInBounds_toArray, List.set_cons_zero, List.set_cons_succ, List.getElem_toArray, List.getElem_cons_zero, List.getElem_cons_succ]
      refine wpAnyH_take (i := 25) (v := ?_) rfl (by kernel_rfl) (by kernel_rfl) (by kernel_rfl) (fun _ _ _ h => h) (Or.inl ⟨by rfl, ?_⟩) (by assumption) ?_
      rotate_left
      · (intro w hSw; (try dsimp only at hSw); go_simp; try rfl)
      try simp only [Act.put, List.setIfInBounds_toArray, List.set_cons_zero, List.set_cons_succ, List.getElem_toArray, List.getElem_cons_zero, List.getElem_cons_succ]
      refine wpAnyH_take (i := 26) (v := ?_) rfl (by kernel_rfl) (by kernel_rfl) (by kernel_rfl) (fun _ _ _ h => h) (Or.inl ⟨by rfl, ?_⟩) (by assumption) ?_
      rotate_left
      · (intro w hSw; (try dsimp only at hSw); go_simp; try rfl)
      try simp only [Act.put, List.setIfInBounds_toArray, List.set_cons_zero, List.set_cons_succ, List.getElem_toArray, List.getElem_cons_zero, List.getElem_cons_succ]
      refine wpAnyH_take (i := 27) (v := ?_) rfl (by kernel_rfl) (by kernel_rfl) (by kernel_rfl) (fun _ _ _ h => h) (Or.inl ⟨by rfl, ?_⟩) (by assumption) ?_
      rotate_left
      · (intro w hSw; (try dsimp only at hSw); go_simp; try rfl)
      try simp only [Act.put, List.setIfInBounds_toArray, List.set_cons_zero, List.set_cons_succ, List.getElem_toArray, List.getElem_cons_zero, List.getElem_cons_succ]
      refine wpAnyH_take (i := 28) (v := ?_) rfl (by kernel_rfl) (by kernel_rfl) (by kernel_rfl) (fun _ _ _ h => h) (Or.inl ⟨by rfl, ?_⟩) (by assumption) ?_
      rotate_left
      · (intro w hSw; (try dsimp only at hSw); go_simp; try rfl)
      try simp only [Act.put, List.setIfInBounds_toArray, List.set_cons_zero, List.set_cons_succ, List.getElem_toArray, List.getElem_cons_zero, List.getElem_cons_succ]
      refine wpAnyH_done (by kernel_rfl) ?_ _
      go_wp2_with fail
      go_ret
      exact ⟨by simp, HB.out.trans ((by assumption : Below wA.heap.size wA _).mono HB.out.size)⟩
  ·
    refine step_loadC (by rfl) _ _ rfl (uc.heap.size) rfl 44 csc (0, 0) _ (((by assumption : Below wA.heap.size wA _).block _ (Array.getElem?_eq_some_iff.1 HXc.out).1).trans HXc.out) Try.underlying44 HIc.out ?_
    refine hK.out _ _ ?_ (fun hHeld => ?_)
    · (first | exact Below.refl _ _ | exact (Below.refl _ _).drew | assumption | exact below_selfX (by assumption) (by assumption))
    clear hK K
    try simp only [Act.put, List.setIfInBounds_toArray, List.set_cons_zero, List.set_cons_succ, List.getElem_toArray, List.getElem_cons_zero, List.getElem_cons_succ]
    refine wpAnyH_ready (rs := [7]) (by kernel_rfl) (by simp) ?_
    refine (AllReadyH.cons rfl (fun K hK => ?_) AllReadyH.nil)
    refine step_loadC (by rfl) _ _ rfl (ub.heap.size) rfl 44 csb (0, 0) _ (((by assumption : Below wA.heap.size wA _).block _ (Array.getElem?_eq_some_iff.1 HXb.out).1).trans HXb.out) Try.underlying44 HIb.out ?_
    refine hK.out _ _ ?_ (fun hHeld => ?_)
    · (first | exact Below.refl _ _ | exact (Below.refl _ _).drew | assumption | exact below_selfX (by assumption) (by assumption))
    clear hK K
    try simp only [Act.put, List.setIfInBounds_toArray, List.set_cons_zero, List.set_cons_succ, List.getElem_toArray, List.getElem_cons_zero, List.getElem_cons_succ]
    refine wpAnyH_ready (rs := [8]) (by kernel_rfl) (by simp) ?_
    refine (AllReadyH.cons rfl (fun K hK => ?_) AllReadyH.nil)
    go_simp
    (go_at_call 21; refine (HCb.out _ (by assumption)).mono ?_; rintro e y ⟨he, hy⟩; rw [he.out]; clear he; have hy := below_selfX (by assumption) hy)
    refine hK.out _ _ ?_ (fun hHeld => ?_)
    · (first | exact Below.refl _ _ | exact (Below.refl _ _).drew | assumption | exact below_selfX (by assumption) (by assumption))
    clear hK K
    try simp only [Act.put, List.setIfInBounds_toArray, List.set_cons_zero, List.set_cons_succ, List.getElem_toArray, List.getElem_cons_zero, List.getElem_cons_succ]
    refine wpAnyH_ready (rs := [10]) (by kernel_rfl) (by simp) ?_
    refine (AllReadyH.cons rfl (fun K hK => ?_) AllReadyH.nil)
    go_simp
    (go_at_call 21; refine (HCc.out _ (by assumption)).mono ?_; rintro e y ⟨he, hy⟩; rw [he.out]; clear he; have hy := below_selfX (by assumption) hy)
    refine hK.out _ _ ?_ (fun hHeld => ?_)
    · (first | exact Below.refl _ _ | exact (Below.refl _ _).drew | assumption | exact below_selfX (by assumption) (by assumption))
    clear hK K
    try simp only [Act.put, List.setIfInBounds_toArray, List.set_cons_zero, List.set_cons_succ, List.getElem_toArray, List.getElem_cons_zero, List.getElem_cons_succ]
    refine wpAnyH_take (i := 11) (v := ?_) rfl (by kernel_rfl) (by kernel_rfl) (by kernel_rfl) (fun _ _ _ h => h) (Or.inl ⟨by rfl, ?_⟩) (by assumption) ?_
    rotate_left
    · (intro w hSw; (try dsimp only at hSw); go_simp; try rfl)
    try simp only [Act.put, List.setIfInBounds_toArray, List.set_cons_zero, List.set_cons_succ, List.getElem_toArray, List.getElem_cons_zero, List.getElem_cons_succ]
    refine wpAnyH_take (i := 12) (v := ?_) rfl (by kernel_rfl) (by kernel_rfl) (by kernel_rfl) (fun _ _ _ h => h) (Or.inl ⟨by rfl, ?_⟩) (by assumption) ?_
    rotate_left
    · (intro w hSw; (try dsimp only at hSw); go_simp; try rfl)
    try simp only [Act.put, List.setIfInBounds_toArray, List.set_cons_zero, List.set_cons_succ, List.getElem_toArray, List.getElem_cons_zero, List.getElem_cons_succ]
    refine wpAnyH_take (i := 13) (v := ?_) rfl (by kernel_rfl) (by kernel_rfl) (by kernel_rfl) (fun _ _ _ h => h) (Or.inl ⟨by rfl, ?_⟩) (by assumption) ?_
    rotate_left
    · (intro w hSw; (try dsimp only at hSw); go_simp; try rfl)
    try simp only [Act.put, List.setIfInBounds_toArray, List.set_cons_zero, List.set_cons_succ, List.getElem_toArray, List.getElem_cons_zero, List.getElem_cons_succ]
    refine wpAnyH_take (i := 14) (v := ?_) rfl (by kernel_rfl) (by kernel_rfl) (by kernel_rfl) (fun _ _ _ h => h) (Or.inl ⟨by rfl, ?_⟩) (by assumption) ?_
    rotate_left
    · (intro w hSw; (try dsimp only at hSw); go_simp; try rfl)
    try simp only [Act.put, List.setIfInBounds_toArray, List.set_cons_zero, List.set_cons_succ, List.getElem_toArray, List.getElem_cons_zero, List.getElem_cons_succ]
    refine wpAnyH_take (i := 15) (v := ?_) rfl (by kernel_rfl) (by kernel_rfl) (by kernel_rfl) (fun _ _ _ h => h) (Or.inl ⟨by rfl, ?_⟩) (by assumption) ?_
    rotate_left
    · (intro w hSw; (try dsimp only at hSw); go_simp; try rfl)
    try simp only [Act.put, List.setIfInBounds_toArray, List.set_cons_zero, List.set_cons_succ, List.getElem_toArray, List.getElem_cons_zero, List.getElem_cons_succ]
    refine wpAnyH_take (i := 16) (v := ?_) rfl (by kernel_rfl) (by kernel_rfl) (by kernel_rfl) (fun _ _ _ h => h) (Or.inl ⟨by rfl, ?_⟩) (by assumption) ?_
    rotate_left
    · (intro w hSw; (try dsimp only at hSw); go_simp; try rfl)
    try simp only [Act.put, List.setIfInBounds_toArray, List.set_cons_zero, List.set_cons_succ, List.getElem_toArray, List.getElem_cons_zero, List.getElem_cons_succ]
    refine wpAnyH_take (i := 17) (v := ?_) rfl (by kernel_rfl) (by kernel_rfl) (by kernel_rfl) (fun _ _ _ h => h) (Or.inl ⟨by rfl, ?_⟩) (by assumption) ?_
    rotate_left
    · (intro w hSw; (try dsimp only at hSw); go_simp; try rfl)
    try simp only [Act.put, List.setIfInBounds_toArray, List.set_cons_zero, List.set_cons_succ, List.getElem_toArray, List.getElem_cons_zero, List.getElem_cons_succ]
    refine wpAnyH_take (i := 18) (v := ?_) rfl (by kernel_rfl) (by kernel_rfl) (by kernel_rfl) (fun _ _ _ h => h) (Or.inl ⟨by rfl, ?_⟩) (by assumption) ?_
    rotate_left
    · (intro w hSw; (try dsimp only at hSw); go_simp; try rfl)
    try simp only [Act.put, List.setIfInBounds_toArray, List.set_cons_zero, List.set_cons_succ, List.getElem_toArray, List.getElem_cons_zero, List.getElem_cons_succ]
    refine wpAnyH_take (i := 19) (v := ?_) rfl (by kernel_rfl) (by kernel_rfl) (by kernel_rfl) (fun _ _ _ h => h) (Or.inl ⟨by rfl, ?_⟩) (by assumption) ?_
    rotate_left
    · (intro w hSw; (try dsimp only at hSw); go_simp; try rfl)
    try simp only [Act.put, List.setIfInBounds_toArray, List.set_cons_zero, List.set_cons_succ, List.getElem_toArray, List.getElem_cons_zero, List.getElem_cons_succ]
    refine wpAnyH_take (i := 20) (v := ?_) rfl (by kernel_rfl) (by kernel_rfl) (by kernel_rfl) (fun _ _ _ h => h) (Or.inl ⟨by rfl, ?_⟩) (by assumption) ?_
    rotate_left
    · (intro w hSw; (try dsimp only at hSw); go_simp; try rfl)
    try simp only [Act.put, List.setIfInBounds_toArray, List.set_cons_zero, List.set_cons_succ, List.getElem_toArray, List.getElem_cons_zero, List.getElem_cons_succ]
    refine wpAnyH_take (i := 21) (v := ?_) rfl (by kernel_rfl) (by kernel_rfl) (by kernel_rfl) (fun _ _ _ h => h) (Or.inl ⟨by rfl, ?_⟩) (by assumption) ?_
    rotate_left
    · (intro w hSw; (try dsimp only at hSw); go_simp; try rfl)
    try simp only [Act.put, List.setIfInBounds_toArray, List.set_cons_zero, List.set_cons_succ, List.getElem_toArray, List.getElem_cons_zero, List.getElem_cons_succ]
    refine wpAnyH_take (i := 22) (v := ?_) rfl (by kernel_rfl) (by kernel_rfl) (by kernel_rfl) (fun _ _ _ h => h) (Or.inl ⟨by rfl, ?_⟩) (by assumption) ?_
    rotate_left
    · (intro w hSw; (try dsimp only at hSw); go_simp; try rfl)
    try simp only [Act.put, List.setIfInBounds_toArray, List.set_cons_zero, List.set_cons_succ, List.getElem_toArray, List.getElem_cons_zero, List.getElem_cons_succ]
    refine wpAnyH_take (i := 23) (v := ?_) rfl (by kernel_rfl) (by kernel_rfl) (by kernel_rfl) (fun _ _ _ h => h) (Or.inl ⟨by rfl, ?_⟩) (by assumption) ?_
    rotate_left
    · (intro w hSw; (try dsimp only at hSw); go_simp; try rfl)
    try simp only [Act.put, List.setIfInBounds_toArray, List.set_cons_zero, List.set_cons_succ, List.getElem_toArray, List.getElem_cons_zero, List.getElem_cons_succ]
    refine wpAnyH_take (i := 24) (v := ?_) rfl (by kernel_rfl) (by kernel_rfl) (by kernel_rfl) (fun _ _ _ h => h) (Or.inl ⟨by rfl, ?_⟩) (by assumption) ?_
    rotate_left
    · (intro w hSw; (try dsimp only at hSw); go_simp; try rfl)
    try simp only [Act.put, List.setIfInBounds_toArray, List.set_cons_zero, List.set_cons_succ, List.getElem_toArray, List.getElem_cons_zero, List.getElem_cons_succ]
    refine wpAnyH_take (i := 25) (v := ?_) rfl (by kernel_rfl) (by kernel_rfl) (by kernel_rfl) (fun _ _ _ h => h) (Or.inl ⟨by rfl, ?_⟩) (by assumption) ?_
    rotate_left
    · (intro w hSw; (try dsimp only at hSw); go_simp; try rfl)
    try simp only [Act.put, List.setIfInBounds_toArray, List.set_cons_zero, List.set_cons_succ, List.getElem_toArray, List.getElem_cons_zero, List.getElem_cons_succ]
    refine wpAnyH_take (i := 26) (v := ?_) rfl (by kernel_rfl) (by kernel_rfl) (by kernel_rfl) (fun _ _ _ h => h) (Or.inl ⟨by rfl, ?_⟩) (by assumption) ?_
    rotate_left
    · (intro w hSw; (try dsimp only at hSw); go_simp; try rfl)
    try simp only [Act.put, List.setIfInBounds_toArray, List.set_cons_zero, List.set_cons_succ, List.getElem_toArray, List.getElem_cons_zero, List.getElem_cons_succ]
    refine wpAnyH_take (i := 27) (v := ?_) rfl (by kernel_rfl) (by kernel_rfl) (by kernel_rfl) (fun _ _ _ h => h) (Or.inl ⟨by rfl, ?_⟩) (by assumption) ?_
    rotate_left
    · (intro w hSw; (try dsimp only at hSw); go_simp; try rfl)
    try simp only [Act.put, List.setIfInBounds_toArray, List.set_cons_zero, List.set_cons_succ, List.getElem_toArray, List.getElem_cons_zero, List.getElem_cons_succ]
    refine wpAnyH_take (i := 28) (v := ?_) rfl (by kernel_rfl) (by kernel_rfl) (by kernel_rfl) (fun _ _ _ h => h) (Or.inl ⟨by rfl, ?_⟩) (by assumption) ?_
    rotate_left
    · (intro w hSw; (try dsimp only at hSw); go_simp; try rfl)
    try simp only [Act.put, List.setIfInBounds_toArray, List.set_cons_zero, List.set_cons_succ, List.getElem_toArray, List.getElem_cons_zero, List.getElem_cons_succ]
    refine wpAnyH_done (by kernel_rfl) ?_ _
    go_wp2_with fail
    go_ret
    exact ⟨by simp, HB.out.trans ((by assumption : Below wA.heap.size wA _).mono HB.out.size)⟩
end Go.Proofs.Ytllcmapgigfgoaa
