/-
  The document's example of layer 13 comes out true.
-/
import Derived.Test.YtllcmapgigfgoaaCp
import Derived.Test.YtllcmapgigfgoaaCf
namespace Go.Proofs.Ytllcmapgigfgoaa
open Go.RowKit
set_option linter.unusedSimpArgs false
set_option linter.unusedVariables false

section
variable {ops : Array Oper} {rest : List Oper} {o : Oper} {a : Act} {w : World} {Q : Exit → Act → World → Prop}
theorem wpList_textC (hw : Region.wanted o (yielded ops a.tmps) = true) (src dst : TypeId) (x : Operand)
    (ho : o.op = .convert src dst x) (e : TypeId) (hs : Try.prog.underlying src = some (.slice e)) (he : Try.prog.underlying e = some (.int .u8)) (hd : Try.prog.underlying dst = some .string) (v : Value) (xs : List Int) (hx : a.eval x = v) (hb : Bt w v xs)
    (h : wpList Try.prog ops Q rest (a.put o.dst (.string (txt xs))) w) : wpList Try.prog ops Q (o :: rest) a w := by
  obtain ⟨ad, cap, rfl, h1, h2⟩ := hb.row
  refine wpList_value hw _ w ?_ h
  unfold execOp
  simp only [ho, hx, run_text h1 h2 hs he hd, Sem.run_bind, Sem.run_pure, Result.andThen_ok]
theorem wpList_cutC (hw : Region.wanted o (yielded ops a.tmps) = true) (x hi : Operand) (ho : o.op = .slice 49 x none (some hi) none) (v : Value) (xs : List Int) (hx : a.eval x = v) (hb : Bt w v xs)
    (h : Nat) (hj : Int) (hh : a.eval hi = .int .i64 hj) (hhj : hj = (h : Int)) (hn : h ≤ xs.length)
    (hk : ∀ v', Bt w v' (xs.take h) → wpList Try.prog ops Q rest (a.put o.dst v') w) : wpList Try.prog ops Q (o :: rest) a w := by
  subst hhj
  obtain ⟨ad, cap, rfl, h1, h2⟩ := hb.row
  have key := bt_sliced h1 h2 0 h (Nat.zero_le _) hn
  rw [List.drop_zero] at key
  refine wpList_value hw _ w ?_ (hk _ key)
  have hu : Try.prog.underlying 49 = some (.slice (Try.prog.elem 49)) := by kernel_rfl
  have hs : ∀ w, (sizeOf (Try.prog.elem 49)).run Try.prog w = .ok 1 w := fun w => by kernel_rfl
  unfold execOp
  simp only [ho, Option.map_some, Option.map_none, hx, hh, Sem.run_bind, Sem.run_pure, Result.andThen_ok]
  rw [run_sliceAt_slice (h := hu), run_slice_h (ht := hu) (h0 := by omega) (h2 := by have := h2.2.1; omega), hs]
  rfl
end
def zIns : Ins := (0, (0, 0), (0, 0), (0, 0, 0, ⟨#[]⟩, ⟨#[]⟩, 0, 0, 0), 0, [])
def exR : Rec4 := (false, (1, 2, 3), zIns, zSnp)
def exM : Msg7 := (8, 3, 4, (0, 0, 0), (0, 0), zIns, zSnp)
def exB : List Int := [0, 1, 2, 3, 0, 0, 0, 0, 0, 0, 0, 0, 0, 0, 0, 0, 0, 0, 0]
theorem in_zero (w : World) : inS.is w (inV zIns (.slice none 0 0)) zIns := in_mk (x := zIns) (Nat.zero_le _) (Nat.zero_le _) row_nil
theorem exR_is (w : World) : RecIs w (.agg #[.bool false, .int .i64 1, .int .i64 2, .int .i64 3, .int .i64 0, .int .i64 0, .int .i64 0, .int .i64 0, .int .i64 0, .int .i64 0, .int .i64 0, .int .i64 0, .string ⟨#[]⟩, .string ⟨#[]⟩, .int .i64 0, .int .i64 0, .int .i64 0, .int .i64 0, .slice none 0 0, .int .i64 0, .slice none 0 0, .slice none 0 0, .slice none 0 0]) exR := ⟨_, rfl, rc_mk (x := exR) (in_zero w) (sn_zero w)⟩
theorem exM_is (w : World) : MsgIs w (.agg #[.int .i64 8, .int .i64 3, .int .i64 4, .int .i64 0, .int .i64 0, .int .i64 0, .int .i64 0, .int .i64 0, .int .i64 0, .int .i64 0, .int .i64 0, .int .i64 0, .int .i64 0, .int .i64 0, .int .i64 0, .int .i64 0, .string ⟨#[]⟩, .string ⟨#[]⟩, .int .i64 0, .int .i64 0, .int .i64 0, .int .i64 0, .slice none 0 0, .int .i64 0, .slice none 0 0, .slice none 0 0, .slice none 0 0]) exM := ⟨_, rfl, ms_mk (x := exM) (Nat.zero_le _) (Nat.zero_le _) row_nil row_nil row_nil row_nil⟩
theorem exR_ok : Oks (rc0Fs exR) := by unfold Oks; decide +kernel
theorem exM_ok : Oks (msC.fs exM) := by unfold Oks; decide +kernel
theorem exR_b : eF (rc0Fs exR) = exB := by decide +kernel
theorem exM_l : (eF (msC.fs exM)).length = 27 := by decide +kernel
theorem exR_rd : rc0Rd (exB, 0) = (exR, ([], 0)) := by kernel_rfl
theorem exB_g : (gNum (exB, 0)).1 = 0 := by decide +kernel
theorem exB_t : ((txt (exB.take 4)).toList == [0, 1, 2, 3]) = true := by decide +kernel
theorem ms_at {w : World} {cs : Array Value} {x : Msg7} (h : msS.is w cs.toList x) : cs[1]? = some (.int .i64 x.2.1) ∧ cs[2]? = some (.int .i64 x.2.2.1) := by
  obtain ⟨a22, m22, c22, rs22, a24, m24, c24, rs24, a25, m25, c25, rs25, a26, m26, c26, rs26, hcs, _⟩ := ms_is h
  rw [← Array.getElem?_toList, ← Array.getElem?_toList, hcs]
  exact ⟨rfl, rfl⟩
theorem rc_at {w : World} {cs : Array Value} {x : Rec4} (h : rcS.is w cs.toList x) : cs[3]? = some (.int .i64 x.2.1.2.2) := by
  obtain ⟨a18, m18, c18, rs18, a20, m20, c20, rs20, a21, m21, c21, rs21, a22, m22, c22, rs22, hcs, _⟩ := rc_is h
  rw [← Array.getElem?_toList, hcs]
  rfl
theorem rc_one {w : World} {cs : Array Value} {x : Rec4} (h : rcS.is w cs.toList x) : cs.all (·.oneCell') = true := by
  rw [← Array.all_toList]; exact List.all_eq_true.2 (fun v hv => rcS.one h v hv)
/-- A box that is laid, and then written. -/
theorem box_row (w : World) (T : TypeId) (z cs : Array Value) : ((w.alloc (.cells z T)).setRow w.heap.size cs).heap[w.heap.size]? = some (.cells cs T (0, 0)) := heap_setRow_same _ _ z cs _ (bka_new w T z)
theorem box_below (w : World) (T : TypeId) (z cs : Array Value) : Below w.heap.size w ((w.alloc (.cells z T)).setRow w.heap.size cs) := below_setRow ((Below.refl _ _).alloc (Nat.le_refl _) _) (Nat.le_refl _) cs
theorem box_size (w : World) (T : TypeId) (z cs : Array Value) : ((w.alloc (.cells z T)).setRow w.heap.size cs).heap.size = w.heap.size + 1 := by
  rw [(sx_setRow _ _ _).size]; simp
theorem row_cell {w : World} {g : Nat} {cs : Array Value} {T : TypeId} (h : w.heap[g]? = some (.cells cs T (0, 0))) (j : Nat) : w.cell? ⟨g, j, none⟩ = cs[j]? := by
  have := cell_of_row w g j cs T (0, 0) h
  simpa using this
def TruP (w : World) (e : Ending) (w' : World) : Prop := e = .returned (.bool true) ∧ Below w.heap.size w w'
set_option maxRecDepth 100000 in
set_option maxHeartbeats 8000000 in
theorem works_any (w : World) : Calls Try.prog 10 #[] w (TruP w) := by
  have t4 := exB_t
  go_enter Try.func10, Try.ntmps10
  go_wp2_with fail
  refine (put0 _ exR w (exR_is w) rfl rfl).mono ?_
  rintro e w1 hP
  obtain ⟨_, u1, he, ho, hb⟩ := hP.resolve_right (fun h => h.1 exR_ok)
  rw [he.out]
  clear he
  rw [exR_b] at ho
  obtain ⟨a1, c1, hv⟩ : ∃ a1 c1, u1 = .slice a1 19 c1 := ho.slice
  subst hv
  have HU1 := Lib.hid (ho.bt (by decide))
  have HB1 := Lib.hid hb
  clear ho hb
  go_wp2_with fail
  refine (get_any0 _ exB w1 HU1.out (by unfold BytL; decide) (by decide) exB_g).mono ?_
  rintro e w2 ⟨u2, he, hb, hm⟩
  rw [exR_rd] at he hm
  rw [he.out]
  clear he
  obtain ⟨cs2, hv, hs2⟩ := (hm.resolve_right (fun h => h.1 rfl)).2 w2 (fun _ _ _ => rfl)
  subst hv
  have HU2 := Lib.hid (HU1.out.below hb)
  have HB2 := Lib.hid (HB1.out.trans (hb.mono HB1.out.size))
  have HC2 := Lib.hid (rc_at hs2)
  have HO2 := Lib.hid (rc_one hs2)
  have HI2 : Hid ((Try.prog.info? 46).map (·.size) = some cs2.size) := Lib.hid (by rw [rc_size hs2]; kernel_rfl)
  have HZ2 : Hid ((#[.bool false, .int .i64 0, .int .i64 0, .int .i64 0, .int .i64 0, .int .i64 0, .int .i64 0, .int .i64 0, .int .i64 0, .int .i64 0, .int .i64 0, .int .i64 0, .string ⟨#[]⟩, .string ⟨#[]⟩, .int .i64 0, .int .i64 0, .int .i64 0, .int .i64 0, .slice none 0 0, .int .i64 0, .slice none 0 0, .slice none 0 0, .slice none 0 0] : Array Value).size = cs2.size) := Lib.hid (by rw [rc_size hs2]; rfl)
  have HA2 := Lib.hid (bka_new w2 46 (#[.bool false, .int .i64 0, .int .i64 0, .int .i64 0, .int .i64 0, .int .i64 0, .int .i64 0, .int .i64 0, .int .i64 0, .int .i64 0, .int .i64 0, .int .i64 0, .string ⟨#[]⟩, .string ⟨#[]⟩, .int .i64 0, .int .i64 0, .int .i64 0, .int .i64 0, .slice none 0 0, .int .i64 0, .slice none 0 0, .slice none 0 0, .slice none 0 0] : Array Value))
  have HR3 := Lib.hid (box_row w2 46 (#[.bool false, .int .i64 0, .int .i64 0, .int .i64 0, .int .i64 0, .int .i64 0, .int .i64 0, .int .i64 0, .int .i64 0, .int .i64 0, .int .i64 0, .int .i64 0, .string ⟨#[]⟩, .string ⟨#[]⟩, .int .i64 0, .int .i64 0, .int .i64 0, .int .i64 0, .slice none 0 0, .int .i64 0, .slice none 0 0, .slice none 0 0, .slice none 0 0] : Array Value) cs2)
  have HU3 := Lib.hid (HU2.out.below (box_below w2 46 (#[.bool false, .int .i64 0, .int .i64 0, .int .i64 0, .int .i64 0, .int .i64 0, .int .i64 0, .int .i64 0, .int .i64 0, .int .i64 0, .int .i64 0, .int .i64 0, .string ⟨#[]⟩, .string ⟨#[]⟩, .int .i64 0, .int .i64 0, .int .i64 0, .int .i64 0, .slice none 0 0, .int .i64 0, .slice none 0 0, .slice none 0 0, .slice none 0 0] : Array Value) cs2))
  have HB3 := Lib.hid (HB2.out.trans ((box_below w2 46 (#[.bool false, .int .i64 0, .int .i64 0, .int .i64 0, .int .i64 0, .int .i64 0, .int .i64 0, .int .i64 0, .int .i64 0, .int .i64 0, .int .i64 0, .int .i64 0, .string ⟨#[]⟩, .string ⟨#[]⟩, .int .i64 0, .int .i64 0, .int .i64 0, .int .i64 0, .slice none 0 0, .int .i64 0, .slice none 0 0, .slice none 0 0, .slice none 0 0] : Array Value) cs2).mono HB2.out.size))
  have HS3 := Lib.hid (box_size w2 46 (#[.bool false, .int .i64 0, .int .i64 0, .int .i64 0, .int .i64 0, .int .i64 0, .int .i64 0, .int .i64 0, .int .i64 0, .int .i64 0, .int .i64 0, .int .i64 0, .string ⟨#[]⟩, .string ⟨#[]⟩, .int .i64 0, .int .i64 0, .int .i64 0, .int .i64 0, .slice none 0 0, .int .i64 0, .slice none 0 0, .slice none 0 0, .slice none 0 0] : Array Value) cs2)
  have HA4 : Hid ((((w2.alloc (.cells (#[.bool false, .int .i64 0, .int .i64 0, .int .i64 0, .int .i64 0, .int .i64 0, .int .i64 0, .int .i64 0, .int .i64 0, .int .i64 0, .int .i64 0, .int .i64 0, .string ⟨#[]⟩, .string ⟨#[]⟩, .int .i64 0, .int .i64 0, .int .i64 0, .int .i64 0, .slice none 0 0, .int .i64 0, .slice none 0 0, .slice none 0 0, .slice none 0 0] : Array Value) 46)).setRow w2.heap.size cs2).alloc (.cells (#[.int .i64 0, .int .i64 0, .int .i64 0, .int .i64 0, .int .i64 0, .int .i64 0, .int .i64 0, .int .i64 0, .int .i64 0, .int .i64 0, .int .i64 0, .int .i64 0, .int .i64 0, .int .i64 0, .int .i64 0, .int .i64 0, .string ⟨#[]⟩, .string ⟨#[]⟩, .int .i64 0, .int .i64 0, .int .i64 0, .int .i64 0, .slice none 0 0, .int .i64 0, .slice none 0 0, .slice none 0 0, .slice none 0 0] : Array Value) 44)).heap[w2.heap.size + 1]? = some (.cells (#[.int .i64 0, .int .i64 0, .int .i64 0, .int .i64 0, .int .i64 0, .int .i64 0, .int .i64 0, .int .i64 0, .int .i64 0, .int .i64 0, .int .i64 0, .int .i64 0, .int .i64 0, .int .i64 0, .int .i64 0, .int .i64 0, .string ⟨#[]⟩, .string ⟨#[]⟩, .int .i64 0, .int .i64 0, .int .i64 0, .int .i64 0, .slice none 0 0, .int .i64 0, .slice none 0 0, .slice none 0 0, .slice none 0 0] : Array Value) 44 (0, 0))) := Lib.hid (by have := bka_new ((w2.alloc (.cells (#[.bool false, .int .i64 0, .int .i64 0, .int .i64 0, .int .i64 0, .int .i64 0, .int .i64 0, .int .i64 0, .int .i64 0, .int .i64 0, .int .i64 0, .int .i64 0, .string ⟨#[]⟩, .string ⟨#[]⟩, .int .i64 0, .int .i64 0, .int .i64 0, .int .i64 0, .slice none 0 0, .int .i64 0, .slice none 0 0, .slice none 0 0, .slice none 0 0] : Array Value) 46)).setRow w2.heap.size cs2) 44 (#[.int .i64 0, .int .i64 0, .int .i64 0, .int .i64 0, .int .i64 0, .int .i64 0, .int .i64 0, .int .i64 0, .int .i64 0, .int .i64 0, .int .i64 0, .int .i64 0, .int .i64 0, .int .i64 0, .int .i64 0, .int .i64 0, .string ⟨#[]⟩, .string ⟨#[]⟩, .int .i64 0, .int .i64 0, .int .i64 0, .int .i64 0, .slice none 0 0, .int .i64 0, .slice none 0 0, .slice none 0 0, .slice none 0 0] : Array Value); rwa [HS3.out] at this)
  have HR5 : Hid ((((((w2.alloc (.cells (#[.bool false, .int .i64 0, .int .i64 0, .int .i64 0, .int .i64 0, .int .i64 0, .int .i64 0, .int .i64 0, .int .i64 0, .int .i64 0, .int .i64 0, .int .i64 0, .string ⟨#[]⟩, .string ⟨#[]⟩, .int .i64 0, .int .i64 0, .int .i64 0, .int .i64 0, .slice none 0 0, .int .i64 0, .slice none 0 0, .slice none 0 0, .slice none 0 0] : Array Value) 46)).setRow w2.heap.size cs2).alloc (.cells (#[.int .i64 0, .int .i64 0, .int .i64 0, .int .i64 0, .int .i64 0, .int .i64 0, .int .i64 0, .int .i64 0, .int .i64 0, .int .i64 0, .int .i64 0, .int .i64 0, .int .i64 0, .int .i64 0, .int .i64 0, .int .i64 0, .string ⟨#[]⟩, .string ⟨#[]⟩, .int .i64 0, .int .i64 0, .int .i64 0, .int .i64 0, .slice none 0 0, .int .i64 0, .slice none 0 0, .slice none 0 0, .slice none 0 0] : Array Value) 44)).setRow (w2.heap.size + 1) (#[.int .i64 8, .int .i64 3, .int .i64 4, .int .i64 0, .int .i64 0, .int .i64 0, .int .i64 0, .int .i64 0, .int .i64 0, .int .i64 0, .int .i64 0, .int .i64 0, .int .i64 0, .int .i64 0, .int .i64 0, .int .i64 0, .string ⟨#[]⟩, .string ⟨#[]⟩, .int .i64 0, .int .i64 0, .int .i64 0, .int .i64 0, .slice none 0 0, .int .i64 0, .slice none 0 0, .slice none 0 0, .slice none 0 0] : Array Value))).heap[w2.heap.size + 1]? = some (.cells (#[.int .i64 8, .int .i64 3, .int .i64 4, .int .i64 0, .int .i64 0, .int .i64 0, .int .i64 0, .int .i64 0, .int .i64 0, .int .i64 0, .int .i64 0, .int .i64 0, .int .i64 0, .int .i64 0, .int .i64 0, .int .i64 0, .string ⟨#[]⟩, .string ⟨#[]⟩, .int .i64 0, .int .i64 0, .int .i64 0, .int .i64 0, .slice none 0 0, .int .i64 0, .slice none 0 0, .slice none 0 0, .slice none 0 0] : Array Value) 44 (0, 0))) := Lib.hid (by have := box_row ((w2.alloc (.cells (#[.bool false, .int .i64 0, .int .i64 0, .int .i64 0, .int .i64 0, .int .i64 0, .int .i64 0, .int .i64 0, .int .i64 0, .int .i64 0, .int .i64 0, .int .i64 0, .string ⟨#[]⟩, .string ⟨#[]⟩, .int .i64 0, .int .i64 0, .int .i64 0, .int .i64 0, .slice none 0 0, .int .i64 0, .slice none 0 0, .slice none 0 0, .slice none 0 0] : Array Value) 46)).setRow w2.heap.size cs2) 44 (#[.int .i64 0, .int .i64 0, .int .i64 0, .int .i64 0, .int .i64 0, .int .i64 0, .int .i64 0, .int .i64 0, .int .i64 0, .int .i64 0, .int .i64 0, .int .i64 0, .int .i64 0, .int .i64 0, .int .i64 0, .int .i64 0, .string ⟨#[]⟩, .string ⟨#[]⟩, .int .i64 0, .int .i64 0, .int .i64 0, .int .i64 0, .slice none 0 0, .int .i64 0, .slice none 0 0, .slice none 0 0, .slice none 0 0] : Array Value) (#[.int .i64 8, .int .i64 3, .int .i64 4, .int .i64 0, .int .i64 0, .int .i64 0, .int .i64 0, .int .i64 0, .int .i64 0, .int .i64 0, .int .i64 0, .int .i64 0, .int .i64 0, .int .i64 0, .int .i64 0, .int .i64 0, .string ⟨#[]⟩, .string ⟨#[]⟩, .int .i64 0, .int .i64 0, .int .i64 0, .int .i64 0, .slice none 0 0, .int .i64 0, .slice none 0 0, .slice none 0 0, .slice none 0 0] : Array Value); rwa [HS3.out] at this)
  have HB5 : Hid (Below (w2.heap.size + 1) ((w2.alloc (.cells (#[.bool false, .int .i64 0, .int .i64 0, .int .i64 0, .int .i64 0, .int .i64 0, .int .i64 0, .int .i64 0, .int .i64 0, .int .i64 0, .int .i64 0, .int .i64 0, .string ⟨#[]⟩, .string ⟨#[]⟩, .int .i64 0, .int .i64 0, .int .i64 0, .int .i64 0, .slice none 0 0, .int .i64 0, .slice none 0 0, .slice none 0 0, .slice none 0 0] : Array Value) 46)).setRow w2.heap.size cs2) ((((w2.alloc (.cells (#[.bool false, .int .i64 0, .int .i64 0, .int .i64 0, .int .i64 0, .int .i64 0, .int .i64 0, .int .i64 0, .int .i64 0, .int .i64 0, .int .i64 0, .int .i64 0, .string ⟨#[]⟩, .string ⟨#[]⟩, .int .i64 0, .int .i64 0, .int .i64 0, .int .i64 0, .slice none 0 0, .int .i64 0, .slice none 0 0, .slice none 0 0, .slice none 0 0] : Array Value) 46)).setRow w2.heap.size cs2).alloc (.cells (#[.int .i64 0, .int .i64 0, .int .i64 0, .int .i64 0, .int .i64 0, .int .i64 0, .int .i64 0, .int .i64 0, .int .i64 0, .int .i64 0, .int .i64 0, .int .i64 0, .int .i64 0, .int .i64 0, .int .i64 0, .int .i64 0, .string ⟨#[]⟩, .string ⟨#[]⟩, .int .i64 0, .int .i64 0, .int .i64 0, .int .i64 0, .slice none 0 0, .int .i64 0, .slice none 0 0, .slice none 0 0, .slice none 0 0] : Array Value) 44)).setRow (w2.heap.size + 1) (#[.int .i64 8, .int .i64 3, .int .i64 4, .int .i64 0, .int .i64 0, .int .i64 0, .int .i64 0, .int .i64 0, .int .i64 0, .int .i64 0, .int .i64 0, .int .i64 0, .int .i64 0, .int .i64 0, .int .i64 0, .int .i64 0, .string ⟨#[]⟩, .string ⟨#[]⟩, .int .i64 0, .int .i64 0, .int .i64 0, .int .i64 0, .slice none 0 0, .int .i64 0, .slice none 0 0, .slice none 0 0, .slice none 0 0] : Array Value))) := Lib.hid (by have := box_below ((w2.alloc (.cells (#[.bool false, .int .i64 0, .int .i64 0, .int .i64 0, .int .i64 0, .int .i64 0, .int .i64 0, .int .i64 0, .int .i64 0, .int .i64 0, .int .i64 0, .int .i64 0, .string ⟨#[]⟩, .string ⟨#[]⟩, .int .i64 0, .int .i64 0, .int .i64 0, .int .i64 0, .slice none 0 0, .int .i64 0, .slice none 0 0, .slice none 0 0, .slice none 0 0] : Array Value) 46)).setRow w2.heap.size cs2) 44 (#[.int .i64 0, .int .i64 0, .int .i64 0, .int .i64 0, .int .i64 0, .int .i64 0, .int .i64 0, .int .i64 0, .int .i64 0, .int .i64 0, .int .i64 0, .int .i64 0, .int .i64 0, .int .i64 0, .int .i64 0, .int .i64 0, .string ⟨#[]⟩, .string ⟨#[]⟩, .int .i64 0, .int .i64 0, .int .i64 0, .int .i64 0, .slice none 0 0, .int .i64 0, .slice none 0 0, .slice none 0 0, .slice none 0 0] : Array Value) (#[.int .i64 8, .int .i64 3, .int .i64 4, .int .i64 0, .int .i64 0, .int .i64 0, .int .i64 0, .int .i64 0, .int .i64 0, .int .i64 0, .int .i64 0, .int .i64 0, .int .i64 0, .int .i64 0, .int .i64 0, .int .i64 0, .string ⟨#[]⟩, .string ⟨#[]⟩, .int .i64 0, .int .i64 0, .int .i64 0, .int .i64 0, .slice none 0 0, .int .i64 0, .slice none 0 0, .slice none 0 0, .slice none 0 0] : Array Value); rwa [HS3.out] at this)
  have HS5 : Hid (((((w2.alloc (.cells (#[.bool false, .int .i64 0, .int .i64 0, .int .i64 0, .int .i64 0, .int .i64 0, .int .i64 0, .int .i64 0, .int .i64 0, .int .i64 0, .int .i64 0, .int .i64 0, .string ⟨#[]⟩, .string ⟨#[]⟩, .int .i64 0, .int .i64 0, .int .i64 0, .int .i64 0, .slice none 0 0, .int .i64 0, .slice none 0 0, .slice none 0 0, .slice none 0 0] : Array Value) 46)).setRow w2.heap.size cs2).alloc (.cells (#[.int .i64 0, .int .i64 0, .int .i64 0, .int .i64 0, .int .i64 0, .int .i64 0, .int .i64 0, .int .i64 0, .int .i64 0, .int .i64 0, .int .i64 0, .int .i64 0, .int .i64 0, .int .i64 0, .int .i64 0, .int .i64 0, .string ⟨#[]⟩, .string ⟨#[]⟩, .int .i64 0, .int .i64 0, .int .i64 0, .int .i64 0, .slice none 0 0, .int .i64 0, .slice none 0 0, .slice none 0 0, .slice none 0 0] : Array Value) 44)).setRow (w2.heap.size + 1) (#[.int .i64 8, .int .i64 3, .int .i64 4, .int .i64 0, .int .i64 0, .int .i64 0, .int .i64 0, .int .i64 0, .int .i64 0, .int .i64 0, .int .i64 0, .int .i64 0, .int .i64 0, .int .i64 0, .int .i64 0, .int .i64 0, .string ⟨#[]⟩, .string ⟨#[]⟩, .int .i64 0, .int .i64 0, .int .i64 0, .int .i64 0, .slice none 0 0, .int .i64 0, .slice none 0 0, .slice none 0 0, .slice none 0 0] : Array Value)).heap.size = w2.heap.size + 2) := Lib.hid (by have := box_size ((w2.alloc (.cells (#[.bool false, .int .i64 0, .int .i64 0, .int .i64 0, .int .i64 0, .int .i64 0, .int .i64 0, .int .i64 0, .int .i64 0, .int .i64 0, .int .i64 0, .int .i64 0, .string ⟨#[]⟩, .string ⟨#[]⟩, .int .i64 0, .int .i64 0, .int .i64 0, .int .i64 0, .slice none 0 0, .int .i64 0, .slice none 0 0, .slice none 0 0, .slice none 0 0] : Array Value) 46)).setRow w2.heap.size cs2) 44 (#[.int .i64 0, .int .i64 0, .int .i64 0, .int .i64 0, .int .i64 0, .int .i64 0, .int .i64 0, .int .i64 0, .int .i64 0, .int .i64 0, .int .i64 0, .int .i64 0, .int .i64 0, .int .i64 0, .int .i64 0, .int .i64 0, .string ⟨#[]⟩, .string ⟨#[]⟩, .int .i64 0, .int .i64 0, .int .i64 0, .int .i64 0, .slice none 0 0, .int .i64 0, .slice none 0 0, .slice none 0 0, .slice none 0 0] : Array Value) (#[.int .i64 8, .int .i64 3, .int .i64 4, .int .i64 0, .int .i64 0, .int .i64 0, .int .i64 0, .int .i64 0, .int .i64 0, .int .i64 0, .int .i64 0, .int .i64 0, .int .i64 0, .int .i64 0, .int .i64 0, .int .i64 0, .string ⟨#[]⟩, .string ⟨#[]⟩, .int .i64 0, .int .i64 0, .int .i64 0, .int .i64 0, .slice none 0 0, .int .i64 0, .slice none 0 0, .slice none 0 0, .slice none 0 0] : Array Value); rwa [HS3.out] at this)
  have HIm : Hid ((Try.prog.info? 44).map (·.size) = some ((#[.int .i64 8, .int .i64 3, .int .i64 4, .int .i64 0, .int .i64 0, .int .i64 0, .int .i64 0, .int .i64 0, .int .i64 0, .int .i64 0, .int .i64 0, .int .i64 0, .int .i64 0, .int .i64 0, .int .i64 0, .int .i64 0, .string ⟨#[]⟩, .string ⟨#[]⟩, .int .i64 0, .int .i64 0, .int .i64 0, .int .i64 0, .slice none 0 0, .int .i64 0, .slice none 0 0, .slice none 0 0, .slice none 0 0] : Array Value) : Array Value).size) := Lib.hid (by kernel_rfl)
  have HOm : Hid (((#[.int .i64 8, .int .i64 3, .int .i64 4, .int .i64 0, .int .i64 0, .int .i64 0, .int .i64 0, .int .i64 0, .int .i64 0, .int .i64 0, .int .i64 0, .int .i64 0, .int .i64 0, .int .i64 0, .int .i64 0, .int .i64 0, .string ⟨#[]⟩, .string ⟨#[]⟩, .int .i64 0, .int .i64 0, .int .i64 0, .int .i64 0, .slice none 0 0, .int .i64 0, .slice none 0 0, .slice none 0 0, .slice none 0 0] : Array Value) : Array Value).all (·.oneCell') = true) := Lib.hid (by rw [← Array.all_toList]; rfl)
  clear hb hm hs2 HU1
  rw [show endE (exR, (([] : List Int), (0 : Int))).2 = 0 from rfl]
  go_wp2_with (first | refine wpList_store_row rfl 46 _ _ rfl w2.heap.size rfl cs2 rfl (#[.bool false, .int .i64 0, .int .i64 0, .int .i64 0, .int .i64 0, .int .i64 0, .int .i64 0, .int .i64 0, .int .i64 0, .int .i64 0, .int .i64 0, .int .i64 0, .string ⟨#[]⟩, .string ⟨#[]⟩, .int .i64 0, .int .i64 0, .int .i64 0, .int .i64 0, .slice none 0 0, .int .i64 0, .slice none 0 0, .slice none 0 0, .slice none 0 0] : Array Value) 46 HA2.out HI2.out HZ2.out HO2.out ?_ | refine wpList_store_row rfl 44 _ _ rfl (w2.heap.size + 1) rfl (#[.int .i64 8, .int .i64 3, .int .i64 4, .int .i64 0, .int .i64 0, .int .i64 0, .int .i64 0, .int .i64 0, .int .i64 0, .int .i64 0, .int .i64 0, .int .i64 0, .int .i64 0, .int .i64 0, .int .i64 0, .int .i64 0, .string ⟨#[]⟩, .string ⟨#[]⟩, .int .i64 0, .int .i64 0, .int .i64 0, .int .i64 0, .slice none 0 0, .int .i64 0, .slice none 0 0, .slice none 0 0, .slice none 0 0] : Array Value) rfl (#[.int .i64 0, .int .i64 0, .int .i64 0, .int .i64 0, .int .i64 0, .int .i64 0, .int .i64 0, .int .i64 0, .int .i64 0, .int .i64 0, .int .i64 0, .int .i64 0, .int .i64 0, .int .i64 0, .int .i64 0, .int .i64 0, .string ⟨#[]⟩, .string ⟨#[]⟩, .int .i64 0, .int .i64 0, .int .i64 0, .int .i64 0, .slice none 0 0, .int .i64 0, .slice none 0 0, .slice none 0 0, .slice none 0 0] : Array Value) 44 HA4.out HIm.out rfl HOm.out ?_ | refine wpList_load_row rfl _ _ rfl (w2.heap.size + 1) rfl 44 (#[.int .i64 8, .int .i64 3, .int .i64 4, .int .i64 0, .int .i64 0, .int .i64 0, .int .i64 0, .int .i64 0, .int .i64 0, .int .i64 0, .int .i64 0, .int .i64 0, .int .i64 0, .int .i64 0, .int .i64 0, .int .i64 0, .string ⟨#[]⟩, .string ⟨#[]⟩, .int .i64 0, .int .i64 0, .int .i64 0, .int .i64 0, .slice none 0 0, .int .i64 0, .slice none 0 0, .slice none 0 0, .slice none 0 0] : Array Value) (0, 0) _ HR5.out Try.underlying44 rfl HIm.out ?_)
  have HR35 := Lib.hid ((HB5.out.block _ (Nat.lt_succ_self _)).trans HR3.out)
  have HU5 := Lib.hid (HU3.out.below (by rw [HS3.out]; exact HB5.out))
  have HB05 := Lib.hid (HB3.out.trans (HB5.out.mono (by have := HB2.out.size; omega)))
  clear HR3 HU3 HB3 HS3 HA4 HA2 HB5
  have HME : Hid (∀ w : World, MsgIs w (.agg (#[.int .i64 8, .int .i64 3, .int .i64 4, .int .i64 0, .int .i64 0, .int .i64 0, .int .i64 0, .int .i64 0, .int .i64 0, .int .i64 0, .int .i64 0, .int .i64 0, .int .i64 0, .int .i64 0, .int .i64 0, .int .i64 0, .string ⟨#[]⟩, .string ⟨#[]⟩, .int .i64 0, .int .i64 0, .int .i64 0, .int .i64 0, .slice none 0 0, .int .i64 0, .slice none 0 0, .slice none 0 0, .slice none 0 0] : Array Value)) exM) := Lib.hid exM_is
  generalize ((((w2.alloc (.cells (#[.bool false, .int .i64 0, .int .i64 0, .int .i64 0, .int .i64 0, .int .i64 0, .int .i64 0, .int .i64 0, .int .i64 0, .int .i64 0, .int .i64 0, .int .i64 0, .string ⟨#[]⟩, .string ⟨#[]⟩, .int .i64 0, .int .i64 0, .int .i64 0, .int .i64 0, .slice none 0 0, .int .i64 0, .slice none 0 0, .slice none 0 0, .slice none 0 0] : Array Value) 46)).setRow w2.heap.size cs2).alloc (.cells (#[.int .i64 0, .int .i64 0, .int .i64 0, .int .i64 0, .int .i64 0, .int .i64 0, .int .i64 0, .int .i64 0, .int .i64 0, .int .i64 0, .int .i64 0, .int .i64 0, .int .i64 0, .int .i64 0, .int .i64 0, .int .i64 0, .string ⟨#[]⟩, .string ⟨#[]⟩, .int .i64 0, .int .i64 0, .int .i64 0, .int .i64 0, .slice none 0 0, .int .i64 0, .slice none 0 0, .slice none 0 0, .slice none 0 0] : Array Value) 44)).setRow (w2.heap.size + 1) (#[.int .i64 8, .int .i64 3, .int .i64 4, .int .i64 0, .int .i64 0, .int .i64 0, .int .i64 0, .int .i64 0, .int .i64 0, .int .i64 0, .int .i64 0, .int .i64 0, .int .i64 0, .int .i64 0, .int .i64 0, .int .i64 0, .string ⟨#[]⟩, .string ⟨#[]⟩, .int .i64 0, .int .i64 0, .int .i64 0, .int .i64 0, .slice none 0 0, .int .i64 0, .slice none 0 0, .slice none 0 0, .slice none 0 0] : Array Value)) = w5 at *
  generalize (#[.int .i64 8, .int .i64 3, .int .i64 4, .int .i64 0, .int .i64 0, .int .i64 0, .int .i64 0, .int .i64 0, .int .i64 0, .int .i64 0, .int .i64 0, .int .i64 0, .int .i64 0, .int .i64 0, .int .i64 0, .int .i64 0, .string ⟨#[]⟩, .string ⟨#[]⟩, .int .i64 0, .int .i64 0, .int .i64 0, .int .i64 0, .slice none 0 0, .int .i64 0, .slice none 0 0, .slice none 0 0, .slice none 0 0] : Array Value) = zv at *
  refine (msg_any _ exM w5 (HME.out w5)).mono ?_
  rintro e w6 hP
  obtain ⟨_, u6, he, ho, hb⟩ := hP.resolve_right (fun h => h.1 exM_ok)
  rw [he.out]
  clear he
  obtain ⟨a6, c6, hv⟩ : ∃ a6 c6, u6 = .slice a6 27 c6 := by
    have := ho.slice
    rwa [exM_l] at this
  subst hv
  have HU6 := Lib.hid (ho.bt (by rw [exM_l]; decide))
  have HB6 := Lib.hid (HB05.out.trans (hb.mono HB05.out.size))
  have HR36 := Lib.hid ((hb.block _ (by rw [HS5.out]; omega)).trans HR35.out)
  have HR66 := Lib.hid ((hb.block _ (by rw [HS5.out]; omega)).trans HR5.out)
  have HBe := Lib.hid (HU5.out.below hb)
  have HS6 : Hid (w2.heap.size + 2 ≤ w6.heap.size) := Lib.hid (by have := hb.size; have := HS5.out; omega)
  clear ho hb hP HU5 HB05 HR35 HR5 HS5 HU2 HB2 HB1
  go_wp2_with fail
  refine (ofmsg_c _ (eF (msC.fs exM)) w6 HU6.out (eF_byte exM_ok) (by rw [exM_l]; decide)).mono ?_
  rintro e w7 ⟨cs7, he, hsz, hone, hb, hm⟩
  rw [Pc.ms_back exM_ok] at he hm
  rw [he.out, show endE (exM, (([] : List Int), (0 : Int))).2 = 0 from rfl]
  clear he
  have HC7 := Lib.hid (ms_at (hm rfl w7 (fun _ _ _ => rfl))).1
  have HI7 : Hid ((Try.prog.info? 44).map (·.size) = some cs7.size) := Lib.hid (by rw [hsz]; kernel_rfl)
  have HZ7 : Hid ((#[.int .i64 0, .int .i64 0, .int .i64 0, .int .i64 0, .int .i64 0, .int .i64 0, .int .i64 0, .int .i64 0, .int .i64 0, .int .i64 0, .int .i64 0, .int .i64 0, .int .i64 0, .int .i64 0, .int .i64 0, .int .i64 0, .string ⟨#[]⟩, .string ⟨#[]⟩, .int .i64 0, .int .i64 0, .int .i64 0, .int .i64 0, .slice none 0 0, .int .i64 0, .slice none 0 0, .slice none 0 0, .slice none 0 0] : Array Value).size = cs7.size) := Lib.hid (by rw [hsz]; rfl)
  have HO7 := Lib.hid hone
  have HA7 := Lib.hid (bka_new w7 44 (#[.int .i64 0, .int .i64 0, .int .i64 0, .int .i64 0, .int .i64 0, .int .i64 0, .int .i64 0, .int .i64 0, .int .i64 0, .int .i64 0, .int .i64 0, .int .i64 0, .int .i64 0, .int .i64 0, .int .i64 0, .int .i64 0, .string ⟨#[]⟩, .string ⟨#[]⟩, .int .i64 0, .int .i64 0, .int .i64 0, .int .i64 0, .slice none 0 0, .int .i64 0, .slice none 0 0, .slice none 0 0, .slice none 0 0] : Array Value))
  have HW7 := Lib.hid (hb.trans ((box_below w7 44 (#[.int .i64 0, .int .i64 0, .int .i64 0, .int .i64 0, .int .i64 0, .int .i64 0, .int .i64 0, .int .i64 0, .int .i64 0, .int .i64 0, .int .i64 0, .int .i64 0, .int .i64 0, .int .i64 0, .int .i64 0, .int .i64 0, .string ⟨#[]⟩, .string ⟨#[]⟩, .int .i64 0, .int .i64 0, .int .i64 0, .int .i64 0, .slice none 0 0, .int .i64 0, .slice none 0 0, .slice none 0 0, .slice none 0 0] : Array Value) cs7).mono hb.size))
  have HR78 := Lib.hid (box_row w7 44 (#[.int .i64 0, .int .i64 0, .int .i64 0, .int .i64 0, .int .i64 0, .int .i64 0, .int .i64 0, .int .i64 0, .int .i64 0, .int .i64 0, .int .i64 0, .int .i64 0, .int .i64 0, .int .i64 0, .int .i64 0, .int .i64 0, .string ⟨#[]⟩, .string ⟨#[]⟩, .int .i64 0, .int .i64 0, .int .i64 0, .int .i64 0, .slice none 0 0, .int .i64 0, .slice none 0 0, .slice none 0 0, .slice none 0 0] : Array Value) cs7)
  have HR38 := Lib.hid ((HW7.out.block _ (by have := HS6.out; omega)).trans HR36.out)
  have HR68 := Lib.hid ((HW7.out.block _ (by have := HS6.out; omega)).trans HR66.out)
  have HB8 := Lib.hid (HB6.out.trans (HW7.out.mono HB6.out.size))
  have HBe8 := Lib.hid (HBe.out.below HW7.out)
  have HS8 : Hid (((w7.alloc (.cells (#[.int .i64 0, .int .i64 0, .int .i64 0, .int .i64 0, .int .i64 0, .int .i64 0, .int .i64 0, .int .i64 0, .int .i64 0, .int .i64 0, .int .i64 0, .int .i64 0, .int .i64 0, .int .i64 0, .int .i64 0, .int .i64 0, .string ⟨#[]⟩, .string ⟨#[]⟩, .int .i64 0, .int .i64 0, .int .i64 0, .int .i64 0, .slice none 0 0, .int .i64 0, .slice none 0 0, .slice none 0 0, .slice none 0 0] : Array Value) 44)).setRow w7.heap.size cs7).heap.size = w7.heap.size + 1) := Lib.hid (box_size w7 44 (#[.int .i64 0, .int .i64 0, .int .i64 0, .int .i64 0, .int .i64 0, .int .i64 0, .int .i64 0, .int .i64 0, .int .i64 0, .int .i64 0, .int .i64 0, .int .i64 0, .int .i64 0, .int .i64 0, .int .i64 0, .int .i64 0, .string ⟨#[]⟩, .string ⟨#[]⟩, .int .i64 0, .int .i64 0, .int .i64 0, .int .i64 0, .slice none 0 0, .int .i64 0, .slice none 0 0, .slice none 0 0, .slice none 0 0] : Array Value) cs7)
  have HL78 : Hid (w2.heap.size + 2 ≤ w7.heap.size) := Lib.hid (by have := hb.size; have := HS6.out; omega)
  clear hsz hone hb hm HW7 HU6 HR36 HR66 HB6 HBe HS6
  go_wp2_with (first | refine wpList_store_row rfl 44 _ _ rfl w7.heap.size rfl cs7 rfl (#[.int .i64 0, .int .i64 0, .int .i64 0, .int .i64 0, .int .i64 0, .int .i64 0, .int .i64 0, .int .i64 0, .int .i64 0, .int .i64 0, .int .i64 0, .int .i64 0, .int .i64 0, .int .i64 0, .int .i64 0, .int .i64 0, .string ⟨#[]⟩, .string ⟨#[]⟩, .int .i64 0, .int .i64 0, .int .i64 0, .int .i64 0, .slice none 0 0, .int .i64 0, .slice none 0 0, .slice none 0 0, .slice none 0 0] : Array Value) 44 HA7.out HI7.out HZ7.out HO7.out ?_ | refine wpList_load_row rfl _ _ rfl (w2.heap.size + 1) rfl 44 zv (0, 0) _ HR68.out Try.underlying44 rfl HIm.out ?_)
  generalize (w7.alloc (.cells (#[.int .i64 0, .int .i64 0, .int .i64 0, .int .i64 0, .int .i64 0, .int .i64 0, .int .i64 0, .int .i64 0, .int .i64 0, .int .i64 0, .int .i64 0, .int .i64 0, .int .i64 0, .int .i64 0, .int .i64 0, .int .i64 0, .string ⟨#[]⟩, .string ⟨#[]⟩, .int .i64 0, .int .i64 0, .int .i64 0, .int .i64 0, .slice none 0 0, .int .i64 0, .slice none 0 0, .slice none 0 0, .slice none 0 0] : Array Value) 44)).setRow w7.heap.size cs7 = w8 at *
  clear HA7 HI7 HZ7 HO7 HR68
  refine (frame_any _ exM w8 (HME.out w8)).mono ?_
  rintro e w9 hP
  obtain ⟨_, _, u9, he, ho, hb⟩ := hP.resolve_right (fun h => h.elim (fun k => k.2.1 (by rw [exM_l]; decide)) (fun k => k.1 exM_ok))
  rw [he.out]
  clear he
  obtain ⟨a9, c9, hv, _⟩ := ho.row
  subst hv
  have HU9 := Lib.hid ho
  have HB9 := Lib.hid (HB8.out.trans (hb.mono HB8.out.size))
  have HR39 := Lib.hid ((hb.block _ (by have := HS8.out; have := HL78.out; omega)).trans HR38.out)
  have HR79 := Lib.hid ((hb.block _ (by have := HS8.out; omega)).trans HR78.out)
  have HBe9 := Lib.hid (HBe8.out.below hb)
  have HL9 : Hid (w7.heap.size + 1 ≤ w9.heap.size) := Lib.hid (by have := hb.size; have := HS8.out; omega)
  clear ho hb hP HB8 HR38 HR78 HBe8 HS8
  go_wp2_with fail
  refine (offrame_any _ (frm (eF (msC.fs exM))) w9 HU9.out (frm_range (eF_byte exM_ok) (by rw [exM_l]; decide)) (by rw [frm_length, exM_l]; decide)).mono ?_
  have hfr := Pc.ofE_frame exM_ok (by rw [exM_l]; decide)
  rw [hfr.2, hfr.1]
  rintro e w10 ⟨cs10, he, hsz, hone, hb, hm⟩
  rw [Pc.ms_back exM_ok] at hm
  rw [he.out]
  clear he hfr
  have HC10 := Lib.hid (ms_at (hm rfl w10 (fun _ _ _ => rfl))).2
  have HI10 : Hid ((Try.prog.info? 44).map (·.size) = some cs10.size) := Lib.hid (by rw [hsz]; kernel_rfl)
  have HZ10 : Hid ((#[.int .i64 0, .int .i64 0, .int .i64 0, .int .i64 0, .int .i64 0, .int .i64 0, .int .i64 0, .int .i64 0, .int .i64 0, .int .i64 0, .int .i64 0, .int .i64 0, .int .i64 0, .int .i64 0, .int .i64 0, .int .i64 0, .string ⟨#[]⟩, .string ⟨#[]⟩, .int .i64 0, .int .i64 0, .int .i64 0, .int .i64 0, .slice none 0 0, .int .i64 0, .slice none 0 0, .slice none 0 0, .slice none 0 0] : Array Value).size = cs10.size) := Lib.hid (by rw [hsz]; rfl)
  have HO10 := Lib.hid hone
  have HA10 := Lib.hid (bka_new w10 44 (#[.int .i64 0, .int .i64 0, .int .i64 0, .int .i64 0, .int .i64 0, .int .i64 0, .int .i64 0, .int .i64 0, .int .i64 0, .int .i64 0, .int .i64 0, .int .i64 0, .int .i64 0, .int .i64 0, .int .i64 0, .int .i64 0, .string ⟨#[]⟩, .string ⟨#[]⟩, .int .i64 0, .int .i64 0, .int .i64 0, .int .i64 0, .slice none 0 0, .int .i64 0, .slice none 0 0, .slice none 0 0, .slice none 0 0] : Array Value))
  have HW10 := Lib.hid (hb.trans ((box_below w10 44 (#[.int .i64 0, .int .i64 0, .int .i64 0, .int .i64 0, .int .i64 0, .int .i64 0, .int .i64 0, .int .i64 0, .int .i64 0, .int .i64 0, .int .i64 0, .int .i64 0, .int .i64 0, .int .i64 0, .int .i64 0, .int .i64 0, .string ⟨#[]⟩, .string ⟨#[]⟩, .int .i64 0, .int .i64 0, .int .i64 0, .int .i64 0, .slice none 0 0, .int .i64 0, .slice none 0 0, .slice none 0 0, .slice none 0 0] : Array Value) cs10).mono hb.size))
  have k3 : ((w10.alloc (.cells (#[.int .i64 0, .int .i64 0, .int .i64 0, .int .i64 0, .int .i64 0, .int .i64 0, .int .i64 0, .int .i64 0, .int .i64 0, .int .i64 0, .int .i64 0, .int .i64 0, .int .i64 0, .int .i64 0, .int .i64 0, .int .i64 0, .string ⟨#[]⟩, .string ⟨#[]⟩, .int .i64 0, .int .i64 0, .int .i64 0, .int .i64 0, .slice none 0 0, .int .i64 0, .slice none 0 0, .slice none 0 0, .slice none 0 0] : Array Value) 44)).setRow w10.heap.size cs10).cell? ⟨w2.heap.size, 3, none⟩ = some (.int .i64 3) := (row_cell ((HW10.out.block _ (by have := HL9.out; have := HL78.out; omega)).trans HR39.out) 3).trans HC2.out
  have k1 : ((w10.alloc (.cells (#[.int .i64 0, .int .i64 0, .int .i64 0, .int .i64 0, .int .i64 0, .int .i64 0, .int .i64 0, .int .i64 0, .int .i64 0, .int .i64 0, .int .i64 0, .int .i64 0, .int .i64 0, .int .i64 0, .int .i64 0, .int .i64 0, .string ⟨#[]⟩, .string ⟨#[]⟩, .int .i64 0, .int .i64 0, .int .i64 0, .int .i64 0, .slice none 0 0, .int .i64 0, .slice none 0 0, .slice none 0 0, .slice none 0 0] : Array Value) 44)).setRow w10.heap.size cs10).cell? ⟨w7.heap.size, 1, none⟩ = some (.int .i64 3) := (row_cell ((HW10.out.block _ (by have := HL9.out; omega)).trans HR79.out) 1).trans HC7.out
  have k2 : ((w10.alloc (.cells (#[.int .i64 0, .int .i64 0, .int .i64 0, .int .i64 0, .int .i64 0, .int .i64 0, .int .i64 0, .int .i64 0, .int .i64 0, .int .i64 0, .int .i64 0, .int .i64 0, .int .i64 0, .int .i64 0, .int .i64 0, .int .i64 0, .string ⟨#[]⟩, .string ⟨#[]⟩, .int .i64 0, .int .i64 0, .int .i64 0, .int .i64 0, .slice none 0 0, .int .i64 0, .slice none 0 0, .slice none 0 0, .slice none 0 0] : Array Value) 44)).setRow w10.heap.size cs10).cell? ⟨w10.heap.size, 2, none⟩ = some (.int .i64 4) := (row_cell (box_row w10 44 (#[.int .i64 0, .int .i64 0, .int .i64 0, .int .i64 0, .int .i64 0, .int .i64 0, .int .i64 0, .int .i64 0, .int .i64 0, .int .i64 0, .int .i64 0, .int .i64 0, .int .i64 0, .int .i64 0, .int .i64 0, .int .i64 0, .string ⟨#[]⟩, .string ⟨#[]⟩, .int .i64 0, .int .i64 0, .int .i64 0, .int .i64 0, .slice none 0 0, .int .i64 0, .slice none 0 0, .slice none 0 0, .slice none 0 0] : Array Value) cs10) 2).trans HC10.out
  have HBF := Lib.hid (HB9.out.trans (HW10.out.mono HB9.out.size))
  have HBeF := Lib.hid (HBe9.out.below HW10.out)
  have hc1 : 4 ≤ c1 := by
    obtain ⟨ad, cap, e, h1, h2⟩ := HBeF.out.row
    simp only [Value.slice.injEq] at e
    have h3 := h2.2.1
    have h5 : exB.length = 19 := rfl
    omega
  have hc2 : (4 : Int) ≤ (c1 : Int) := by omega
  have H4 : Bt ((w10.alloc (.cells (#[.int .i64 0, .int .i64 0, .int .i64 0, .int .i64 0, .int .i64 0, .int .i64 0, .int .i64 0, .int .i64 0, .int .i64 0, .int .i64 0, .int .i64 0, .int .i64 0, .int .i64 0, .int .i64 0, .int .i64 0, .int .i64 0, .string ⟨#[]⟩, .string ⟨#[]⟩, .int .i64 0, .int .i64 0, .int .i64 0, .int .i64 0, .slice none 0 0, .int .i64 0, .slice none 0 0, .slice none 0 0, .slice none 0 0] : Array Value) 44)).setRow w10.heap.size cs10) (.slice a1 4 c1) (exB.take 4) := by
    obtain ⟨ad, cap, e, h1, h2⟩ := HBeF.out.row
    simp only [Value.slice.injEq] at e
    obtain ⟨rfl, _, rfl⟩ := e
    have key := bt_sliced h1 h2 0 4 (by decide) (by decide)
    rcases a1 with _ | ⟨g, o, m⟩
    · simpa [sliced] using key
    · simpa [sliced, Addr.add] using key
  have hcv : (convert 49 9 (.slice a1 4 c1)).run Try.prog ((w10.alloc (.cells (#[.int .i64 0, .int .i64 0, .int .i64 0, .int .i64 0, .int .i64 0, .int .i64 0, .int .i64 0, .int .i64 0, .int .i64 0, .int .i64 0, .int .i64 0, .int .i64 0, .int .i64 0, .int .i64 0, .int .i64 0, .int .i64 0, .string ⟨#[]⟩, .string ⟨#[]⟩, .int .i64 0, .int .i64 0, .int .i64 0, .int .i64 0, .slice none 0 0, .int .i64 0, .slice none 0 0, .slice none 0 0, .slice none 0 0] : Array Value) 44)).setRow w10.heap.size cs10) = .ok (.string (txt (exB.take 4))) ((w10.alloc (.cells (#[.int .i64 0, .int .i64 0, .int .i64 0, .int .i64 0, .int .i64 0, .int .i64 0, .int .i64 0, .int .i64 0, .int .i64 0, .int .i64 0, .int .i64 0, .int .i64 0, .int .i64 0, .int .i64 0, .int .i64 0, .int .i64 0, .string ⟨#[]⟩, .string ⟨#[]⟩, .int .i64 0, .int .i64 0, .int .i64 0, .int .i64 0, .slice none 0 0, .int .i64 0, .slice none 0 0, .slice none 0 0, .slice none 0 0] : Array Value) 44)).setRow w10.heap.size cs10) := by
    obtain ⟨ad, cap, e, h1, h2⟩ := H4.row
    rw [show Value.slice a1 4 c1 = .slice ad (exB.take 4).length cap from e]
    exact run_text h1 h2 Try.underlying49 Try.underlying5 Try.underlying9
  clear H4 hsz hone hb hm HW10 HU9 HB9 HR39 HR79 HBe9
  go_wp2_with (refine wpList_store_row rfl 44 _ _ rfl w10.heap.size rfl cs10 rfl (#[.int .i64 0, .int .i64 0, .int .i64 0, .int .i64 0, .int .i64 0, .int .i64 0, .int .i64 0, .int .i64 0, .int .i64 0, .int .i64 0, .int .i64 0, .int .i64 0, .int .i64 0, .int .i64 0, .int .i64 0, .int .i64 0, .string ⟨#[]⟩, .string ⟨#[]⟩, .int .i64 0, .int .i64 0, .int .i64 0, .int .i64 0, .slice none 0 0, .int .i64 0, .slice none 0 0, .slice none 0 0, .slice none 0 0] : Array Value) 44 HA10.out HI10.out HZ10.out HO10.out ?_)
  go_ret
  exact ⟨rfl, HBF.out⟩
end Go.Proofs.Ytllcmapgigfgoaa
