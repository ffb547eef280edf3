/-
 Package clone: rows and structs of their own.
-/
import Derived.Test.YtnancdbkmompdaaGreatRY
import Derived.Test.YtnancdbkmompdaaGreatRQK
import Derived.Lib.LazyBuf
import Derived.Deep.MidRow
namespace Go.Proofs.YtnancdbkmompdaaGreat
open Go.RowKit
set_option linter.unusedSimpArgs false
set_option linter.unusedVariables false
set_option maxRecDepth 100000
set_option maxHeartbeats 40000000
/-- Cells written over, from the o-th on. -/
def splice : List Value → Nat → List Value → List Value
 | cs, _, [] => cs
 | cs, o, v :: r => splice (cs.set o v) (o + 1) r
theorem Bk.sets {b : Nat} {T : TypeId} : ∀ (vs : List Value) (o : Nat) (w : World) (cs : List Value), Bk w b T cs → Bk (w.setCells b o vs) b T (splice cs o vs)
 | [], _, _, _, h => h
 | v :: r, o, w, cs, h => Bk.sets r (o + 1) _ _ (h.set o v)
theorem sets_far {b k : Nat} (hk : k ≠ b) : ∀ (vs : List Value) (o : Nat) (w : World), (w.setCells b o vs).heap[k]? = w.heap[k]?
 | [], _, _ => rfl
 | v :: r, o, w => (sets_far hk r (o + 1) _).trans (Below.heap_setCell _ _ _ _ hk)
theorem sets_below {b B : Nat} {w0 : World} (hb : B ≤ b) : ∀ (vs : List Value) (o : Nat) (w : World), Below B w0 w → Below B w0 (w.setCells b o vs)
 | [], _, _, h => h
 | v :: r, o, w, h => sets_below hb r (o + 1) _ (h.setCell (show B ≤ (⟨b, o, none⟩ : Addr).block from hb) v)
theorem Bk.there {w : World} {b : Nat} {T : TypeId} {cs : List Value} (h : Bk w b T cs) (o n : Nat) (hn : o + n ≤ cs.length) : w.there b o n := fun j hj =>
 ⟨by rw [h.cell]; rw [List.getElem?_eq_getElem (by omega)]; rfl, h.fz _⟩
theorem wpList_store_nm {P : Program} {ops : Array Oper} {rest : List Oper} {op : Oper} {a : Act} {w w2 : World} {Q : Exit → Act → World → Prop} (hgd : op.guard = none) (ty : TypeId) (x y : Operand) (ho : op.op = .store ty x y)
  (b o : Nat) (cells : Array Value) (hx : a.eval x = .pointer (some ⟨b, o, none⟩)) (hy : a.eval y = .agg cells)
  (ht : w.there b o cells.size) (hi : (P.info? ty).map (·.size) = some cells.size) (h1 : cells.all (·.oneCell') = true) (hv : w.setCells b o cells.toList = w2)
  (h : wpList P ops Q rest (a.put op.dst undef) w2) : wpList P ops Q (op :: rest) a w :=
 wpList_store_mid hgd ty x y ho b o cells hx hy ht hi h1 (by rw [hv]; exact h)
/-- What slices.Clone answers. -/
def ClP {k : Nat} (K : Knd Tryz.prog (Cls k)) (rs : List (Cls k)) (w : World) (e : Ending) (w' : World) : Prop := ∃ (a : Option Addr) (c : Nat), Hid (e = .returned (.slice a rs.length c)) ∧ K.Own w' w.heap.size (.slice a rs.length c) rs ∧ Below w.heap.size w w'
theorem clN (v : Value) (ns : List (Cls 1)) (w : World) (h : KN.Rd w v ns) (hl : ns.length ≤ 1000000) : Calls Tryz.prog 88 #[v] w (ClP KN ns w) := by
 have H := Hd h
 have knil := fun (w : World) (a : Option Addr) (l c : Nat) => run_eql_slice_nil (P := Tryz.prog) w 22 3 a l c Tryz.underlying22
 obtain ⟨a, c, rfl, h1, h2, h3⟩ := h
 cases a with
 | none =>
  have hxs : ns = [] := by
   rcases h3 with h0 | ⟨g, off, ha, _⟩
   ·exact h0
   ·cases ha
  subst hxs
  obtain rfl := h2 rfl
  clear H h1 h2 h3
  go_enter Tryz.func88, Tryz.ntmps88
  go_wp2
  go_ret
  exact ⟨none, 0, rfl, Knd.Own.nil _ _, Below.refl _ _⟩
 | some ad =>
  clear h1 h2 h3
  obtain ⟨N, hN⟩ : ∃ N, ns.length = N := ⟨_, rfl⟩
  unfold ClP
  rw [hN] at H hl ⊢
  have HN := Hd hN
  clear hN
  go_enter Tryz.func88, Tryz.ntmps88
  have HO : Hid (KN.Own (w.alloc (.cells #[] 3)) w.heap.size (.slice (some ⟨w.heap.size, 0, none⟩) 0 0) []) := World.ownsRow_lit w #[] 0 (Nat.le_refl _) (by simp) rfl
  have HH := Hd (H.out.below ((Below.refl w.heap.size w).alloc (Nat.le_refl _) (.cells #[] 3)))
  have hz : w.heap.size ≤ (w.alloc (.cells #[] 3)).heap.size := by simp
  go_wp2_with (refine KN.app rfl _ _ rfl w.heap.size _ [] rfl HO.out _ ns rfl HH.out (by simp only [List.length_nil]; rw [HN.out]; omega) hz ?_)
  intro v' w' ho hb _ _
  obtain ⟨a2, c2, hv⟩ : ∃ a2 c2, v' = .slice a2 N c2 := by
   obtain ⟨a2, c2, e2⟩ := ho.slice
   exact ⟨a2, c2, by rw [e2]; simp [HN.out]⟩
  subst hv
  have HI := Hd ho
  have HB := Hd (((Below.refl w.heap.size w).alloc (Nat.le_refl _) (.cells #[] 3)).trans hb)
  clear ho hb
  go_wp2
  go_ret
  exact ⟨a2, c2, rfl, by simpa using HI.out, HB.out⟩
theorem clT (v : Value) (ns : List (Cls 1)) (w : World) (h : KT.Rd w v ns) (hl : ns.length ≤ 1000000) : Calls Tryz.prog 100 #[v] w (ClP KT ns w) := by
 have H := Hd h
 have knil := fun (w : World) (a : Option Addr) (l c : Nat) => run_eql_slice_nil (P := Tryz.prog) w 29 9 a l c Tryz.underlying29
 obtain ⟨a, c, rfl, h1, h2, h3⟩ := h
 cases a with
 | none =>
  have hxs : ns = [] := by
   rcases h3 with h0 | ⟨g, off, ha, _⟩
   ·exact h0
   ·cases ha
  subst hxs
  obtain rfl := h2 rfl
  clear H h1 h2 h3
  go_enter Tryz.func100, Tryz.ntmps100
  go_wp2
  go_ret
  exact ⟨none, 0, rfl, Knd.Own.nil _ _, Below.refl _ _⟩
 | some ad =>
  clear h1 h2 h3
  obtain ⟨N, hN⟩ : ∃ N, ns.length = N := ⟨_, rfl⟩
  unfold ClP
  rw [hN] at H hl ⊢
  have HN := Hd hN
  clear hN
  go_enter Tryz.func100, Tryz.ntmps100
  have HO : Hid (KT.Own (w.alloc (.cells #[] 9)) w.heap.size (.slice (some ⟨w.heap.size, 0, none⟩) 0 0) []) := World.ownsRow_lit w #[] 0 (Nat.le_refl _) (by simp) rfl
  have HH := Hd (H.out.below ((Below.refl w.heap.size w).alloc (Nat.le_refl _) (.cells #[] 9)))
  have hz : w.heap.size ≤ (w.alloc (.cells #[] 9)).heap.size := by simp
  go_wp2_with (refine KT.app rfl _ _ rfl w.heap.size _ [] rfl HO.out _ ns rfl HH.out (by simp only [List.length_nil]; rw [HN.out]; omega) hz ?_)
  intro v' w' ho hb _ _
  obtain ⟨a2, c2, hv⟩ : ∃ a2 c2, v' = .slice a2 N c2 := by
   obtain ⟨a2, c2, e2⟩ := ho.slice
   exact ⟨a2, c2, by rw [e2]; simp [HN.out]⟩
  subst hv
  have HI := Hd ho
  have HB := Hd (((Below.refl w.heap.size w).alloc (Nat.le_refl _) (.cells #[] 9)).trans hb)
  clear ho hb
  go_wp2
  go_ret
  exact ⟨a2, c2, rfl, by simpa using HI.out, HB.out⟩
theorem clE (v : Value) (ns : List (Cls 3)) (w : World) (h : KE.Rd w v ns) (hl : ns.length ≤ 1000000) : Calls Tryz.prog 66 #[v] w (ClP KE ns w) := by
 have H := Hd h
 have knil := fun (w : World) (a : Option Addr) (l c : Nat) => run_eql_slice_nil (P := Tryz.prog) w 25 71 a l c Tryz.underlying25
 obtain ⟨a, c, rfl, h1, h2, h3⟩ := h
 cases a with
 | none =>
  have hxs : ns = [] := by
   rcases h3 with h0 | ⟨g, off, ha, _⟩
   ·exact h0
   ·cases ha
  subst hxs
  obtain rfl := h2 rfl
  clear H h1 h2 h3
  go_enter Tryz.func66, Tryz.ntmps66
  go_wp2
  go_ret
  exact ⟨none, 0, rfl, Knd.Own.nil _ _, Below.refl _ _⟩
 | some ad =>
  clear h1 h2 h3
  obtain ⟨N, hN⟩ : ∃ N, ns.length = N := ⟨_, rfl⟩
  unfold ClP
  rw [hN] at H hl ⊢
  have HN := Hd hN
  clear hN
  go_enter Tryz.func66, Tryz.ntmps66
  have HO : Hid (KE.Own (w.alloc (.cells #[] 71)) w.heap.size (.slice (some ⟨w.heap.size, 0, none⟩) 0 0) []) := World.ownsRow_lit w #[] 0 (Nat.le_refl _) (by simp) rfl
  have HH := Hd (H.out.below ((Below.refl w.heap.size w).alloc (Nat.le_refl _) (.cells #[] 71)))
  have hz : w.heap.size ≤ (w.alloc (.cells #[] 71)).heap.size := by simp
  go_wp2_with (refine KE.app rfl _ _ rfl w.heap.size _ [] rfl HO.out _ ns rfl HH.out (by simp only [List.length_nil]; rw [HN.out]; omega) hz ?_)
  intro v' w' ho hb _ _
  obtain ⟨a2, c2, hv⟩ : ∃ a2 c2, v' = .slice a2 N c2 := by
   obtain ⟨a2, c2, e2⟩ := ho.slice
   exact ⟨a2, c2, by rw [e2]; simp [HN.out]⟩
  subst hv
  have HI := Hd ho
  have HB := Hd (((Below.refl w.heap.size w).alloc (Nat.le_refl _) (.cells #[] 71)).trans hb)
  clear ho hb
  go_wp2
  go_ret
  exact ⟨a2, c2, rfl, by simpa using HI.out, HB.out⟩
theorem clZ (v : Value) (ns : List (Cls 6)) (w : World) (h : KZ.Rd w v ns) (hl : ns.length ≤ 1000000) : Calls Tryz.prog 67 #[v] w (ClP KZ ns w) := by
 have H := Hd h
 have knil := fun (w : World) (a : Option Addr) (l c : Nat) => run_eql_slice_nil (P := Tryz.prog) w 26 75 a l c Tryz.underlying26
 obtain ⟨a, c, rfl, h1, h2, h3⟩ := h
 cases a with
 | none =>
  have hxs : ns = [] := by
   rcases h3 with h0 | ⟨g, off, ha, _⟩
   ·exact h0
   ·cases ha
  subst hxs
  obtain rfl := h2 rfl
  clear H h1 h2 h3
  go_enter Tryz.func67, Tryz.ntmps67
  go_wp2
  go_ret
  exact ⟨none, 0, rfl, Knd.Own.nil _ _, Below.refl _ _⟩
 | some ad =>
  clear h1 h2 h3
  obtain ⟨N, hN⟩ : ∃ N, ns.length = N := ⟨_, rfl⟩
  unfold ClP
  rw [hN] at H hl ⊢
  have HN := Hd hN
  clear hN
  go_enter Tryz.func67, Tryz.ntmps67
  have HO : Hid (KZ.Own (w.alloc (.cells #[] 75)) w.heap.size (.slice (some ⟨w.heap.size, 0, none⟩) 0 0) []) := World.ownsRow_lit w #[] 0 (Nat.le_refl _) (by simp) rfl
  have HH := Hd (H.out.below ((Below.refl w.heap.size w).alloc (Nat.le_refl _) (.cells #[] 75)))
  have hz : w.heap.size ≤ (w.alloc (.cells #[] 75)).heap.size := by simp
  go_wp2_with (refine KZ.app rfl _ _ rfl w.heap.size _ [] rfl HO.out _ ns rfl HH.out (by simp only [List.length_nil]; rw [HN.out]; omega) hz ?_)
  intro v' w' ho hb _ _
  obtain ⟨a2, c2, hv⟩ : ∃ a2 c2, v' = .slice a2 N c2 := by
   obtain ⟨a2, c2, e2⟩ := ho.slice
   exact ⟨a2, c2, by rw [e2]; simp [HN.out]⟩
  subst hv
  have HI := Hd ho
  have HB := Hd (((Below.refl w.heap.size w).alloc (Nat.le_refl _) (.cells #[] 75)).trans hb)
  clear ho hb
  go_wp2
  go_ret
  exact ⟨a2, c2, rfl, by simpa using HI.out, HB.out⟩
theorem clI (v : Value) (ns : List (Cls 3)) (w : World) (h : KI.Rd w v ns) (hl : ns.length ≤ 1000000) : Calls Tryz.prog 26 #[v] w (ClP KI ns w) := by
 have H := Hd h
 have knil := fun (w : World) (a : Option Addr) (l c : Nat) => run_eql_slice_nil (P := Tryz.prog) w 34 49 a l c Tryz.underlying34
 obtain ⟨a, c, rfl, h1, h2, h3⟩ := h
 cases a with
 | none =>
  have hxs : ns = [] := by
   rcases h3 with h0 | ⟨g, off, ha, _⟩
   ·exact h0
   ·cases ha
  subst hxs
  obtain rfl := h2 rfl
  clear H h1 h2 h3
  go_enter Tryz.func26, Tryz.ntmps26
  go_wp2
  go_ret
  exact ⟨none, 0, rfl, Knd.Own.nil _ _, Below.refl _ _⟩
 | some ad =>
  clear h1 h2 h3
  obtain ⟨N, hN⟩ : ∃ N, ns.length = N := ⟨_, rfl⟩
  unfold ClP
  rw [hN] at H hl ⊢
  have HN := Hd hN
  clear hN
  go_enter Tryz.func26, Tryz.ntmps26
  have HO : Hid (KI.Own (w.alloc (.cells #[] 49)) w.heap.size (.slice (some ⟨w.heap.size, 0, none⟩) 0 0) []) := World.ownsRow_lit w #[] 0 (Nat.le_refl _) (by simp) rfl
  have HH := Hd (H.out.below ((Below.refl w.heap.size w).alloc (Nat.le_refl _) (.cells #[] 49)))
  have hz : w.heap.size ≤ (w.alloc (.cells #[] 49)).heap.size := by simp
  go_wp2_with (refine KI.app rfl _ _ rfl w.heap.size _ [] rfl HO.out _ ns rfl HH.out (by simp only [List.length_nil]; rw [HN.out]; omega) hz ?_)
  intro v' w' ho hb _ _
  obtain ⟨a2, c2, hv⟩ : ∃ a2 c2, v' = .slice a2 N c2 := by
   obtain ⟨a2, c2, e2⟩ := ho.slice
   exact ⟨a2, c2, by rw [e2]; simp [HN.out]⟩
  subst hv
  have HI := Hd ho
  have HB := Hd (((Below.refl w.heap.size w).alloc (Nat.le_refl _) (.cells #[] 49)).trans hb)
  clear ho hb
  go_wp2
  go_ret
  exact ⟨a2, c2, rfl, by simpa using HI.out, HB.out⟩
def cconfP (n0 : Int) (rs : List (Cls 1)) (w : World) (e : Ending) (w' : World) : Prop := ∃ (a2 : Option Addr) (c2 : Nat), Hid (e = .returned (.agg #[.int .i64 n0, .slice a2 rs.length c2])) ∧ KN.Own w' w.heap.size (.slice a2 rs.length c2) rs ∧ Below w.heap.size w w'
theorem cconf (n0 : Int) (v : Value) (rs : List (Cls 1)) (w : World) (h : KN.Rd w v rs) (hl : rs.length ≤ 1000000) : Calls Tryz.prog 65 #[.agg #[.int .i64 n0, v]] w (cconfP n0 rs w) := by
 obtain ⟨a, c, rfl⟩ := h.slice
 unfold cconfP
 obtain ⟨M, hM⟩ : ∃ M, rs.length = M := ⟨_, rfl⟩
 rw [hM] at h ⊢
 have HM := Hd hM
 obtain ⟨X, hX⟩ : ∃ X, (w.alloc (.cells #[.int .i64 n0, .slice a M c] 24)).alloc (.cells #[.int .i64 0, .slice none 0 0] 24) = X := ⟨_, rfl⟩
 have hB : Below w.heap.size w X := by rw [← hX]; exact ((Below.refl _ _).alloc (Nat.le_refl _) _).alloc (by simp) _
 have h1 : Bk X w.heap.size 24 [.int .i64 n0, .slice a M c] := by rw [← hX]; exact (Bk.new w _ _).old _
 have h2 : Bk X (w.heap.size + 1) 24 [.int .i64 0, .slice none 0 0] := by rw [← hX]; have := Bk.new (w.alloc (.cells #[.int .i64 n0, .slice a M c] 24)) 24 [.int .i64 0, .slice none 0 0]; rwa [World.size_alloc] at this
 have hz : X.heap.size = w.heap.size + 2 := by rw [← hX]; simp
 have y1 := h1.cell 1
 simp only [gB] at y1
 have HS := Hd (clN (.slice a M c) rs X (h.below hB) hl)
 have HB := Hd hB
 have H1 := Hd h1
 have H2 := Hd h2
 have HZ := Hd hz
 have HXi : Hid ((Tryz.prog.info? 24).map (·.size) = some 2) := Hd (by kernel_rfl)
 clear h h1 h2 hB hM hz
 go_enter Tryz.func65, Tryz.ntmps65
 go_wp2_with fail
 refine HS.out.mono ?_
 rintro e w1 ⟨a2, c2, he, ho, hb⟩
 rw [HM.out] at he ho
 rw [he.out]
 have HO := Hd ho
 have H1b := Hd (H1.out.below hb)
 have H2b := Hd (H2.out.below hb)
 have HB1 := Hd (HB.out.trans (hb.mono HB.out.size))
 clear he ho hb hX y1
 have y1 := H1b.out.cell 1
 have z1 := H1b.out.fz 1
 simp only [gB] at y1
 obtain ⟨w2, hw2⟩ : ∃ q, w1.setCell ⟨w.heap.size, 1, none⟩ (.slice a2 M c2) = q := ⟨_, rfl⟩
 have hA := H1b.out.set 1 (.slice a2 M c2)
 have hC := H2b.out.other (b2 := w.heap.size) (by omega) 1 (.slice a2 M c2)
 have hD := HB1.out.setCell (show w.heap.size ≤ (⟨w.heap.size, 1, none⟩ : Addr).block from Nat.le_refl _) (.slice a2 M c2)
 have hO := HO.out.keepB (w' := w1.setCell ⟨w.heap.size, 1, none⟩ (.slice a2 M c2)) (fun k hk => Below.heap_setCell _ _ _ k (by have := HO.out.from k hk; have := HZ.out; show k ≠ w.heap.size; omega))
 simp only [List.set_cons_zero, List.set_cons_succ] at hA
 rw [hw2] at hA hC hD hO
 have HA := Hd hA
 have HC := Hd hC
 have HD := Hd hD
 have HO2 := Hd hO
 clear hA hC hD hO
 go_wp2_with (first | (refine wpList_load_row rfl _ _ rfl w.heap.size rfl 24 #[.int .i64 n0, .slice a2 M c2] (0, 0) _ HA.out Tryz.underlying24 rfl HXi.out ?_) | (refine wpList_store_row rfl 24 _ _ rfl (w.heap.size + 1) rfl #[.int .i64 n0, .slice a2 M c2] rfl #[.int .i64 0, .slice none 0 0] 24 HC.out HXi.out rfl (by rw [← Array.all_toList]; rfl) ?_))
 have hlv := run_loadVar_row (w2.setRow (w.heap.size + 1) #[.int .i64 n0, .slice a2 M c2]) _ _ _ #[.int .i64 n0, .slice a2 M c2] (0, 0) _ (heap_setRow_same _ _ #[.int .i64 0, .slice none 0 0] #[.int .i64 n0, .slice a2 M c2] _ HC.out) Tryz.underlying24 rfl HXi.out
 exact bodyPost_ret (v := .agg #[.int .i64 n0, .slice a2 M c2]) (by simp [results, Tryz.results65, asAddr, Act.put, hlv]) rfl ⟨a2, c2, rfl, (HO2.out.keepB (fun k hk => (sx_setRow _ (w.heap.size + 1) #[.int .i64 n0, .slice a2 M c2]).block k (by have := HO2.out.from k hk; have := HZ.out; omega))).base (by have := HZ.out; omega), below_setRow HD.out (by omega) _⟩
def creplP (n0 : Int) (n1 : ByteArray) (n2 : Int) (rs : List (Cls 1)) (w : World) (e : Ending) (w' : World) : Prop := ∃ (a2 : Option Addr) (c2 : Nat), Hid (e = .returned (.agg #[.int .i64 n0, .string n1, .int .i64 n2, .slice a2 rs.length c2])) ∧ KT.Own w' w.heap.size (.slice a2 rs.length c2) rs ∧ Below w.heap.size w w'
theorem crepl (n0 : Int) (n1 : ByteArray) (n2 : Int) (v : Value) (rs : List (Cls 1)) (w : World) (h : KT.Rd w v rs) (hl : rs.length ≤ 1000000) : Calls Tryz.prog 89 #[.agg #[.int .i64 n0, .string n1, .int .i64 n2, v]] w (creplP n0 n1 n2 rs w) := by
 obtain ⟨a, c, rfl⟩ := h.slice
 unfold creplP
 obtain ⟨M, hM⟩ : ∃ M, rs.length = M := ⟨_, rfl⟩
 rw [hM] at h ⊢
 have HM := Hd hM
 obtain ⟨X, hX⟩ : ∃ X, (w.alloc (.cells #[.int .i64 n0, .string n1, .int .i64 n2, .slice a M c] 73)).alloc (.cells #[.int .i64 0, .string ⟨#[]⟩, .int .i64 0, .slice none 0 0] 73) = X := ⟨_, rfl⟩
 have hB : Below w.heap.size w X := by rw [← hX]; exact ((Below.refl _ _).alloc (Nat.le_refl _) _).alloc (by simp) _
 have h1 : Bk X w.heap.size 73 [.int .i64 n0, .string n1, .int .i64 n2, .slice a M c] := by rw [← hX]; exact (Bk.new w _ _).old _
 have h2 : Bk X (w.heap.size + 1) 73 [.int .i64 0, .string ⟨#[]⟩, .int .i64 0, .slice none 0 0] := by rw [← hX]; have := Bk.new (w.alloc (.cells #[.int .i64 n0, .string n1, .int .i64 n2, .slice a M c] 73)) 73 [.int .i64 0, .string ⟨#[]⟩, .int .i64 0, .slice none 0 0]; rwa [World.size_alloc] at this
 have hz : X.heap.size = w.heap.size + 2 := by rw [← hX]; simp
 have y3 := h1.cell 3
 simp only [gB] at y3
 have HS := Hd (clT (.slice a M c) rs X (h.below hB) hl)
 have HB := Hd hB
 have H1 := Hd h1
 have H2 := Hd h2
 have HZ := Hd hz
 have HXi : Hid ((Tryz.prog.info? 73).map (·.size) = some 4) := Hd (by kernel_rfl)
 clear h h1 h2 hB hM hz
 go_enter Tryz.func89, Tryz.ntmps89
 go_wp2_with fail
 refine HS.out.mono ?_
 rintro e w1 ⟨a2, c2, he, ho, hb⟩
 rw [HM.out] at he ho
 rw [he.out]
 have HO := Hd ho
 have H1b := Hd (H1.out.below hb)
 have H2b := Hd (H2.out.below hb)
 have HB1 := Hd (HB.out.trans (hb.mono HB.out.size))
 clear he ho hb hX y3
 have y3 := H1b.out.cell 3
 have z3 := H1b.out.fz 3
 simp only [gB] at y3
 obtain ⟨w2, hw2⟩ : ∃ q, w1.setCell ⟨w.heap.size, 3, none⟩ (.slice a2 M c2) = q := ⟨_, rfl⟩
 have hA := H1b.out.set 3 (.slice a2 M c2)
 have hC := H2b.out.other (b2 := w.heap.size) (by omega) 3 (.slice a2 M c2)
 have hD := HB1.out.setCell (show w.heap.size ≤ (⟨w.heap.size, 3, none⟩ : Addr).block from Nat.le_refl _) (.slice a2 M c2)
 have hO := HO.out.keepB (w' := w1.setCell ⟨w.heap.size, 3, none⟩ (.slice a2 M c2)) (fun k hk => Below.heap_setCell _ _ _ k (by have := HO.out.from k hk; have := HZ.out; show k ≠ w.heap.size; omega))
 simp only [List.set_cons_zero, List.set_cons_succ] at hA
 rw [hw2] at hA hC hD hO
 have HA := Hd hA
 have HC := Hd hC
 have HD := Hd hD
 have HO2 := Hd hO
 clear hA hC hD hO
 go_wp2_with (first | (refine wpList_load_row rfl _ _ rfl w.heap.size rfl 73 #[.int .i64 n0, .string n1, .int .i64 n2, .slice a2 M c2] (0, 0) _ HA.out Tryz.underlying73 rfl HXi.out ?_) | (refine wpList_store_row rfl 73 _ _ rfl (w.heap.size + 1) rfl #[.int .i64 n0, .string n1, .int .i64 n2, .slice a2 M c2] rfl #[.int .i64 0, .string ⟨#[]⟩, .int .i64 0, .slice none 0 0] 73 HC.out HXi.out rfl (by rw [← Array.all_toList]; rfl) ?_))
 have hlv := run_loadVar_row (w2.setRow (w.heap.size + 1) #[.int .i64 n0, .string n1, .int .i64 n2, .slice a2 M c2]) _ _ _ #[.int .i64 n0, .string n1, .int .i64 n2, .slice a2 M c2] (0, 0) _ (heap_setRow_same _ _ #[.int .i64 0, .string ⟨#[]⟩, .int .i64 0, .slice none 0 0] #[.int .i64 n0, .string n1, .int .i64 n2, .slice a2 M c2] _ HC.out) Tryz.underlying73 rfl HXi.out
 exact bodyPost_ret (v := .agg #[.int .i64 n0, .string n1, .int .i64 n2, .slice a2 M c2]) (by simp [results, Tryz.results89, asAddr, Act.put, hlv]) rfl ⟨a2, c2, rfl, (HO2.out.keepB (fun k hk => (sx_setRow _ (w.heap.size + 1) #[.int .i64 n0, .string n1, .int .i64 n2, .slice a2 M c2]).block k (by have := HO2.out.from k hk; have := HZ.out; omega))).base (by have := HZ.out; omega), below_setRow HD.out (by omega) _⟩
def csessP (n0 : Int) (n1 : Int) (n2 : Int) (n3 : ByteArray) (n4 : Int) (rs : List (Cls 1)) (w : World) (e : Ending) (w' : World) : Prop := ∃ (a2 : Option Addr) (c2 : Nat), Hid (e = .returned (.agg #[.int .i64 n0, .int .i64 n1, .int .i64 n2, .string n3, .int .i64 n4, .slice a2 rs.length c2])) ∧ KT.Own w' w.heap.size (.slice a2 rs.length c2) rs ∧ Below w.heap.size w w'
theorem csess (n0 : Int) (n1 : Int) (n2 : Int) (n3 : ByteArray) (n4 : Int) (v : Value) (rs : List (Cls 1)) (w : World) (h : KT.Rd w v rs) (hl : rs.length ≤ 1000000) : Calls Tryz.prog 68 #[.agg #[.int .i64 n0, .int .i64 n1, .int .i64 n2, .string n3, .int .i64 n4, v]] w (csessP n0 n1 n2 n3 n4 rs w) := by
 obtain ⟨a, c, rfl⟩ := h.slice
 unfold csessP
 obtain ⟨M, hM⟩ : ∃ M, rs.length = M := ⟨_, rfl⟩
 rw [hM] at h ⊢
 have HM := Hd hM
 obtain ⟨X, hX⟩ : ∃ X, (w.alloc (.cells #[.int .i64 n0, .int .i64 n1, .int .i64 n2, .string n3, .int .i64 n4, .slice a M c] 75)).alloc (.cells #[.int .i64 0, .int .i64 0, .int .i64 0, .string ⟨#[]⟩, .int .i64 0, .slice none 0 0] 75) = X := ⟨_, rfl⟩
 have hB : Below w.heap.size w X := by rw [← hX]; exact ((Below.refl _ _).alloc (Nat.le_refl _) _).alloc (by simp) _
 have h1 : Bk X w.heap.size 75 [.int .i64 n0, .int .i64 n1, .int .i64 n2, .string n3, .int .i64 n4, .slice a M c] := by rw [← hX]; exact (Bk.new w _ _).old _
 have h2 : Bk X (w.heap.size + 1) 75 [.int .i64 0, .int .i64 0, .int .i64 0, .string ⟨#[]⟩, .int .i64 0, .slice none 0 0] := by rw [← hX]; have := Bk.new (w.alloc (.cells #[.int .i64 n0, .int .i64 n1, .int .i64 n2, .string n3, .int .i64 n4, .slice a M c] 75)) 75 [.int .i64 0, .int .i64 0, .int .i64 0, .string ⟨#[]⟩, .int .i64 0, .slice none 0 0]; rwa [World.size_alloc] at this
 have hz : X.heap.size = w.heap.size + 2 := by rw [← hX]; simp
 have y2 := h1.cell 2
 have y3 := h1.cell 3
 have y4 := h1.cell 4
 have y5 := h1.cell 5
 simp only [gB] at y2 y3 y4 y5
 have HS := Hd (crepl n2 n3 n4 (.slice a M c) rs X (h.below hB) hl)
 have HB := Hd hB
 have H1 := Hd h1
 have H2 := Hd h2
 have HZ := Hd hz
 have HXi : Hid ((Tryz.prog.info? 75).map (·.size) = some 6) := Hd (by kernel_rfl)
 clear h h1 h2 hB hM hz
 go_enter Tryz.func68, Tryz.ntmps68
 go_wp2_with fail
 refine HS.out.mono ?_
 rintro e w1 ⟨a2, c2, he, ho, hb⟩
 rw [HM.out] at he ho
 rw [he.out]
 have HO := Hd ho
 have H1b := Hd (H1.out.below hb)
 have H2b := Hd (H2.out.below hb)
 have HB1 := Hd (HB.out.trans (hb.mono HB.out.size))
 clear he ho hb hX y2 y3 y4 y5
 have HTh := Hd (H1b.out.there 2 4 (Nat.le_of_ble_eq_true rfl))
 obtain ⟨w2, hw2⟩ : ∃ q, w1.setCells w.heap.size 2 [.int .i64 n2, .string n3, .int .i64 n4, .slice a2 M c2] = q := ⟨_, rfl⟩
 have hA := H1b.out.sets [.int .i64 n2, .string n3, .int .i64 n4, .slice a2 M c2] 2 _ _
 have hC : Bk (w1.setCells w.heap.size 2 [.int .i64 n2, .string n3, .int .i64 n4, .slice a2 M c2]) (w.heap.size + 1) 75 [.int .i64 0, .int .i64 0, .int .i64 0, .string ⟨#[]⟩, .int .i64 0, .slice none 0 0] := (sets_far (by omega) _ _ _).trans H2b.out
 have hD := sets_below (Nat.le_refl w.heap.size) [.int .i64 n2, .string n3, .int .i64 n4, .slice a2 M c2] 2 _ HB1.out
 have hO := HO.out.keepB (w' := w1.setCells w.heap.size 2 [.int .i64 n2, .string n3, .int .i64 n4, .slice a2 M c2]) (fun k hk => sets_far (by have := HO.out.from k hk; have := HZ.out; omega) _ _ _)
 simp only [splice, List.set_cons_zero, List.set_cons_succ] at hA
 rw [hw2] at hA hC hD hO
 have HA := Hd hA
 have HC := Hd hC
 have HD := Hd hD
 have HO2 := Hd hO
 have HV := Hd hw2
 clear hA hC hD hO hw2
 go_wp2_with (first | (refine wpList_store_nm rfl 73 _ _ rfl w.heap.size 2 #[.int .i64 n2, .string n3, .int .i64 n4, .slice a2 M c2] rfl rfl HTh.out (by kernel_rfl) (by rw [← Array.all_toList]; rfl) HV.out ?_) | (refine wpList_load_row rfl _ _ rfl w.heap.size rfl 75 #[.int .i64 n0, .int .i64 n1, .int .i64 n2, .string n3, .int .i64 n4, .slice a2 M c2] (0, 0) _ HA.out Tryz.underlying75 rfl HXi.out ?_) | (refine wpList_store_row rfl 75 _ _ rfl (w.heap.size + 1) rfl #[.int .i64 n0, .int .i64 n1, .int .i64 n2, .string n3, .int .i64 n4, .slice a2 M c2] rfl #[.int .i64 0, .int .i64 0, .int .i64 0, .string ⟨#[]⟩, .int .i64 0, .slice none 0 0] 75 HC.out HXi.out rfl (by rw [← Array.all_toList]; rfl) ?_))
 have hlv := run_loadVar_row (w2.setRow (w.heap.size + 1) #[.int .i64 n0, .int .i64 n1, .int .i64 n2, .string n3, .int .i64 n4, .slice a2 M c2]) _ _ _ #[.int .i64 n0, .int .i64 n1, .int .i64 n2, .string n3, .int .i64 n4, .slice a2 M c2] (0, 0) _ (heap_setRow_same _ _ #[.int .i64 0, .int .i64 0, .int .i64 0, .string ⟨#[]⟩, .int .i64 0, .slice none 0 0] #[.int .i64 n0, .int .i64 n1, .int .i64 n2, .string n3, .int .i64 n4, .slice a2 M c2] _ HC.out) Tryz.underlying75 rfl HXi.out
 exact bodyPost_ret (v := .agg #[.int .i64 n0, .int .i64 n1, .int .i64 n2, .string n3, .int .i64 n4, .slice a2 M c2]) (by simp [results, Tryz.results68, asAddr, Act.put, hlv]) rfl ⟨a2, c2, rfl, (HO2.out.keepB (fun k hk => (sx_setRow _ (w.heap.size + 1) #[.int .i64 n0, .int .i64 n1, .int .i64 n2, .string n3, .int .i64 n4, .slice a2 M c2]).block k (by have := HO2.out.from k hk; have := HZ.out; omega))).base (by have := HZ.out; omega), below_setRow HD.out (by omega) _⟩
def cattrP (n0 : Int) (rs : List (Cls 3)) (w : World) (e : Ending) (w' : World) : Prop := ∃ (a2 : Option Addr) (c2 : Nat), Hid (e = .returned (.agg #[.int .i64 n0, .slice a2 rs.length c2])) ∧ KI.Own w' w.heap.size (.slice a2 rs.length c2) rs ∧ Below w.heap.size w w'
theorem cattr (n0 : Int) (v : Value) (rs : List (Cls 3)) (w : World) (h : KI.Rd w v rs) (hl : rs.length ≤ 1000000) : Calls Tryz.prog 73 #[.agg #[.int .i64 n0, v]] w (cattrP n0 rs w) := by
 obtain ⟨a, c, rfl⟩ := h.slice
 unfold cattrP
 obtain ⟨M, hM⟩ : ∃ M, rs.length = M := ⟨_, rfl⟩
 rw [hM] at h ⊢
 have HM := Hd hM
 obtain ⟨X, hX⟩ : ∃ X, (w.alloc (.cells #[.int .i64 n0, .slice a M c] 57)).alloc (.cells #[.int .i64 0, .slice none 0 0] 57) = X := ⟨_, rfl⟩
 have hB : Below w.heap.size w X := by rw [← hX]; exact ((Below.refl _ _).alloc (Nat.le_refl _) _).alloc (by simp) _
 have h1 : Bk X w.heap.size 57 [.int .i64 n0, .slice a M c] := by rw [← hX]; exact (Bk.new w _ _).old _
 have h2 : Bk X (w.heap.size + 1) 57 [.int .i64 0, .slice none 0 0] := by rw [← hX]; have := Bk.new (w.alloc (.cells #[.int .i64 n0, .slice a M c] 57)) 57 [.int .i64 0, .slice none 0 0]; rwa [World.size_alloc] at this
 have hz : X.heap.size = w.heap.size + 2 := by rw [← hX]; simp
 have y1 := h1.cell 1
 simp only [gB] at y1
 have HS := Hd (clI (.slice a M c) rs X (h.below hB) hl)
 have HB := Hd hB
 have H1 := Hd h1
 have H2 := Hd h2
 have HZ := Hd hz
 have HXi : Hid ((Tryz.prog.info? 57).map (·.size) = some 2) := Hd (by kernel_rfl)
 clear h h1 h2 hB hM hz
 go_enter Tryz.func73, Tryz.ntmps73
 go_wp2_with fail
 refine HS.out.mono ?_
 rintro e w1 ⟨a2, c2, he, ho, hb⟩
 rw [HM.out] at he ho
 rw [he.out]
 have HO := Hd ho
 have H1b := Hd (H1.out.below hb)
 have H2b := Hd (H2.out.below hb)
 have HB1 := Hd (HB.out.trans (hb.mono HB.out.size))
 clear he ho hb hX y1
 have y1 := H1b.out.cell 1
 have z1 := H1b.out.fz 1
 simp only [gB] at y1
 obtain ⟨w2, hw2⟩ : ∃ q, w1.setCell ⟨w.heap.size, 1, none⟩ (.slice a2 M c2) = q := ⟨_, rfl⟩
 have hA := H1b.out.set 1 (.slice a2 M c2)
 have hC := H2b.out.other (b2 := w.heap.size) (by omega) 1 (.slice a2 M c2)
 have hD := HB1.out.setCell (show w.heap.size ≤ (⟨w.heap.size, 1, none⟩ : Addr).block from Nat.le_refl _) (.slice a2 M c2)
 have hO := HO.out.keepB (w' := w1.setCell ⟨w.heap.size, 1, none⟩ (.slice a2 M c2)) (fun k hk => Below.heap_setCell _ _ _ k (by have := HO.out.from k hk; have := HZ.out; show k ≠ w.heap.size; omega))
 simp only [List.set_cons_zero, List.set_cons_succ] at hA
 rw [hw2] at hA hC hD hO
 have HA := Hd hA
 have HC := Hd hC
 have HD := Hd hD
 have HO2 := Hd hO
 clear hA hC hD hO
 go_wp2_with (first | (refine wpList_load_row rfl _ _ rfl w.heap.size rfl 57 #[.int .i64 n0, .slice a2 M c2] (0, 0) _ HA.out Tryz.underlying57 rfl HXi.out ?_) | (refine wpList_store_row rfl 57 _ _ rfl (w.heap.size + 1) rfl #[.int .i64 n0, .slice a2 M c2] rfl #[.int .i64 0, .slice none 0 0] 57 HC.out HXi.out rfl (by rw [← Array.all_toList]; rfl) ?_))
 have hlv := run_loadVar_row (w2.setRow (w.heap.size + 1) #[.int .i64 n0, .slice a2 M c2]) _ _ _ #[.int .i64 n0, .slice a2 M c2] (0, 0) _ (heap_setRow_same _ _ #[.int .i64 0, .slice none 0 0] #[.int .i64 n0, .slice a2 M c2] _ HC.out) Tryz.underlying57 rfl HXi.out
 exact bodyPost_ret (v := .agg #[.int .i64 n0, .slice a2 M c2]) (by simp [results, Tryz.results73, asAddr, Act.put, hlv]) rfl ⟨a2, c2, rfl, (HO2.out.keepB (fun k hk => (sx_setRow _ (w.heap.size + 1) #[.int .i64 n0, .slice a2 M c2]).block k (by have := HO2.out.from k hk; have := HZ.out; omega))).base (by have := HZ.out; omega), below_setRow HD.out (by omega) _⟩
def cinstP (n0 : Int) (n1 : Int) (n2 : Int) (n3 : Int) (n4 : Int) (n5 : Int) (n6 : Int) (n7 : Int) (n8 : ByteArray) (n9 : ByteArray) (n10 : Int) (n11 : Int) (n12 : Int) (n13 : Int) (rs : List (Cls 3)) (w : World) (e : Ending) (w' : World) : Prop := ∃ (a2 : Option Addr) (c2 : Nat), Hid (e = .returned (.agg #[.int .i64 n0, .int .i64 n1, .int .i64 n2, .int .i64 n3, .int .i64 n4, .int .i64 n5, .int .i64 n6, .int .i64 n7, .string n8, .string n9, .int .i64 n10, .int .i64 n11, .int .i64 n12, .int .i64 n13, .slice a2 rs.length c2])) ∧ KI.Own w' w.heap.size (.slice a2 rs.length c2) rs ∧ Below w.heap.size w w'
theorem cinst (n0 : Int) (n1 : Int) (n2 : Int) (n3 : Int) (n4 : Int) (n5 : Int) (n6 : Int) (n7 : Int) (n8 : ByteArray) (n9 : ByteArray) (n10 : Int) (n11 : Int) (n12 : Int) (n13 : Int) (v : Value) (rs : List (Cls 3)) (w : World) (h : KI.Rd w v rs) (hl : rs.length ≤ 1000000) : Calls Tryz.prog 46 #[.agg #[.int .i64 n0, .int .i64 n1, .int .i64 n2, .int .i64 n3, .int .i64 n4, .int .i64 n5, .int .i64 n6, .int .i64 n7, .string n8, .string n9, .int .i64 n10, .int .i64 n11, .int .i64 n12, .int .i64 n13, v]] w (cinstP n0 n1 n2 n3 n4 n5 n6 n7 n8 n9 n10 n11 n12 n13 rs w) := by
 obtain ⟨a, c, rfl⟩ := h.slice
 unfold cinstP
 obtain ⟨M, hM⟩ : ∃ M, rs.length = M := ⟨_, rfl⟩
 rw [hM] at h ⊢
 have HM := Hd hM
 obtain ⟨X, hX⟩ : ∃ X, (w.alloc (.cells #[.int .i64 n0, .int .i64 n1, .int .i64 n2, .int .i64 n3, .int .i64 n4, .int .i64 n5, .int .i64 n6, .int .i64 n7, .string n8, .string n9, .int .i64 n10, .int .i64 n11, .int .i64 n12, .int .i64 n13, .slice a M c] 59)).alloc (.cells #[.int .i64 0, .int .i64 0, .int .i64 0, .int .i64 0, .int .i64 0, .int .i64 0, .int .i64 0, .int .i64 0, .string ⟨#[]⟩, .string ⟨#[]⟩, .int .i64 0, .int .i64 0, .int .i64 0, .int .i64 0, .slice none 0 0] 59) = X := ⟨_, rfl⟩
 have hB : Below w.heap.size w X := by rw [← hX]; exact ((Below.refl _ _).alloc (Nat.le_refl _) _).alloc (by simp) _
 have h1 : Bk X w.heap.size 59 [.int .i64 n0, .int .i64 n1, .int .i64 n2, .int .i64 n3, .int .i64 n4, .int .i64 n5, .int .i64 n6, .int .i64 n7, .string n8, .string n9, .int .i64 n10, .int .i64 n11, .int .i64 n12, .int .i64 n13, .slice a M c] := by rw [← hX]; exact (Bk.new w _ _).old _
 have h2 : Bk X (w.heap.size + 1) 59 [.int .i64 0, .int .i64 0, .int .i64 0, .int .i64 0, .int .i64 0, .int .i64 0, .int .i64 0, .int .i64 0, .string ⟨#[]⟩, .string ⟨#[]⟩, .int .i64 0, .int .i64 0, .int .i64 0, .int .i64 0, .slice none 0 0] := by rw [← hX]; have := Bk.new (w.alloc (.cells #[.int .i64 n0, .int .i64 n1, .int .i64 n2, .int .i64 n3, .int .i64 n4, .int .i64 n5, .int .i64 n6, .int .i64 n7, .string n8, .string n9, .int .i64 n10, .int .i64 n11, .int .i64 n12, .int .i64 n13, .slice a M c] 59)) 59 [.int .i64 0, .int .i64 0, .int .i64 0, .int .i64 0, .int .i64 0, .int .i64 0, .int .i64 0, .int .i64 0, .string ⟨#[]⟩, .string ⟨#[]⟩, .int .i64 0, .int .i64 0, .int .i64 0, .int .i64 0, .slice none 0 0]; rwa [World.size_alloc] at this
 have hz : X.heap.size = w.heap.size + 2 := by rw [← hX]; simp
 have y13 := h1.cell 13
 have y14 := h1.cell 14
 simp only [gB] at y13 y14
 have HS := Hd (cattr n13 (.slice a M c) rs X (h.below hB) hl)
 have HB := Hd hB
 have H1 := Hd h1
 have H2 := Hd h2
 have HZ := Hd hz
 have HXi : Hid ((Tryz.prog.info? 59).map (·.size) = some 15) := Hd (by kernel_rfl)
 clear h h1 h2 hB hM hz
 go_enter Tryz.func46, Tryz.ntmps46
 go_wp2_with fail
 refine HS.out.mono ?_
 rintro e w1 ⟨a2, c2, he, ho, hb⟩
 rw [HM.out] at he ho
 rw [he.out]
 have HO := Hd ho
 have H1b := Hd (H1.out.below hb)
 have H2b := Hd (H2.out.below hb)
 have HB1 := Hd (HB.out.trans (hb.mono HB.out.size))
 clear he ho hb hX y13 y14
 have HTh := Hd (H1b.out.there 13 2 (Nat.le_of_ble_eq_true rfl))
 obtain ⟨w2, hw2⟩ : ∃ q, w1.setCells w.heap.size 13 [.int .i64 n13, .slice a2 M c2] = q := ⟨_, rfl⟩
 have hA := H1b.out.sets [.int .i64 n13, .slice a2 M c2] 13 _ _
 have hC : Bk (w1.setCells w.heap.size 13 [.int .i64 n13, .slice a2 M c2]) (w.heap.size + 1) 59 [.int .i64 0, .int .i64 0, .int .i64 0, .int .i64 0, .int .i64 0, .int .i64 0, .int .i64 0, .int .i64 0, .string ⟨#[]⟩, .string ⟨#[]⟩, .int .i64 0, .int .i64 0, .int .i64 0, .int .i64 0, .slice none 0 0] := (sets_far (by omega) _ _ _).trans H2b.out
 have hD := sets_below (Nat.le_refl w.heap.size) [.int .i64 n13, .slice a2 M c2] 13 _ HB1.out
 have hO := HO.out.keepB (w' := w1.setCells w.heap.size 13 [.int .i64 n13, .slice a2 M c2]) (fun k hk => sets_far (by have := HO.out.from k hk; have := HZ.out; omega) _ _ _)
 simp only [splice, List.set_cons_zero, List.set_cons_succ] at hA
 rw [hw2] at hA hC hD hO
 have HA := Hd hA
 have HC := Hd hC
 have HD := Hd hD
 have HO2 := Hd hO
 have HV := Hd hw2
 clear hA hC hD hO hw2
 go_wp2_with (first | (refine wpList_store_nm rfl 57 _ _ rfl w.heap.size 13 #[.int .i64 n13, .slice a2 M c2] rfl rfl HTh.out (by kernel_rfl) (by rw [← Array.all_toList]; rfl) HV.out ?_) | (refine wpList_load_row rfl _ _ rfl w.heap.size rfl 59 #[.int .i64 n0, .int .i64 n1, .int .i64 n2, .int .i64 n3, .int .i64 n4, .int .i64 n5, .int .i64 n6, .int .i64 n7, .string n8, .string n9, .int .i64 n10, .int .i64 n11, .int .i64 n12, .int .i64 n13, .slice a2 M c2] (0, 0) _ HA.out Tryz.underlying59 rfl HXi.out ?_) | (refine wpList_store_row rfl 59 _ _ rfl (w.heap.size + 1) rfl #[.int .i64 n0, .int .i64 n1, .int .i64 n2, .int .i64 n3, .int .i64 n4, .int .i64 n5, .int .i64 n6, .int .i64 n7, .string n8, .string n9, .int .i64 n10, .int .i64 n11, .int .i64 n12, .int .i64 n13, .slice a2 M c2] rfl #[.int .i64 0, .int .i64 0, .int .i64 0, .int .i64 0, .int .i64 0, .int .i64 0, .int .i64 0, .int .i64 0, .string ⟨#[]⟩, .string ⟨#[]⟩, .int .i64 0, .int .i64 0, .int .i64 0, .int .i64 0, .slice none 0 0] 59 HC.out HXi.out rfl (by rw [← Array.all_toList]; rfl) ?_))
 have hlv := run_loadVar_row (w2.setRow (w.heap.size + 1) #[.int .i64 n0, .int .i64 n1, .int .i64 n2, .int .i64 n3, .int .i64 n4, .int .i64 n5, .int .i64 n6, .int .i64 n7, .string n8, .string n9, .int .i64 n10, .int .i64 n11, .int .i64 n12, .int .i64 n13, .slice a2 M c2]) _ _ _ #[.int .i64 n0, .int .i64 n1, .int .i64 n2, .int .i64 n3, .int .i64 n4, .int .i64 n5, .int .i64 n6, .int .i64 n7, .string n8, .string n9, .int .i64 n10, .int .i64 n11, .int .i64 n12, .int .i64 n13, .slice a2 M c2] (0, 0) _ (heap_setRow_same _ _ #[.int .i64 0, .int .i64 0, .int .i64 0, .int .i64 0, .int .i64 0, .int .i64 0, .int .i64 0, .int .i64 0, .string ⟨#[]⟩, .string ⟨#[]⟩, .int .i64 0, .int .i64 0, .int .i64 0, .int .i64 0, .slice none 0 0] #[.int .i64 n0, .int .i64 n1, .int .i64 n2, .int .i64 n3, .int .i64 n4, .int .i64 n5, .int .i64 n6, .int .i64 n7, .string n8, .string n9, .int .i64 n10, .int .i64 n11, .int .i64 n12, .int .i64 n13, .slice a2 M c2] _ HC.out) Tryz.underlying59 rfl HXi.out
 exact bodyPost_ret (v := .agg #[.int .i64 n0, .int .i64 n1, .int .i64 n2, .int .i64 n3, .int .i64 n4, .int .i64 n5, .int .i64 n6, .int .i64 n7, .string n8, .string n9, .int .i64 n10, .int .i64 n11, .int .i64 n12, .int .i64 n13, .slice a2 M c2]) (by simp [results, Tryz.results46, asAddr, Act.put, hlv]) rfl ⟨a2, c2, rfl, (HO2.out.keepB (fun k hk => (sx_setRow _ (w.heap.size + 1) #[.int .i64 n0, .int .i64 n1, .int .i64 n2, .int .i64 n3, .int .i64 n4, .int .i64 n5, .int .i64 n6, .int .i64 n7, .string n8, .string n9, .int .i64 n10, .int .i64 n11, .int .i64 n12, .int .i64 n13, .slice a2 M c2]).block k (by have := HO2.out.from k hk; have := HZ.out; omega))).base (by have := HZ.out; omega), below_setRow HD.out (by omega) _⟩
end Go.Proofs.YtnancdbkmompdaaGreat
