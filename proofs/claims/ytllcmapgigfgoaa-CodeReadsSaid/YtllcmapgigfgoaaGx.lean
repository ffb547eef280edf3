/-
  Texts put together: CdG, CdH, CdV.
-/
import Derived.Test.YtllcmapgigfgoaaCp
import Derived.Test.YtllcmapgigfgoaaCf
import Derived.Test.YtllcmapgigfgoaaWr
import Derived.Deep.RegionHeld3
import Derived.Deep.Cut
import Derived.Deep.CutRange
namespace Go.Proofs.Ytllcmapgigfgoaa
open Go.RowKit
set_option linter.unusedSimpArgs false
set_option linter.unusedVariables false

section
variable {ops : Array Oper} {rest : List Oper} {o : Oper} {a : Act} {w : World} {Q : Exit → Act → World → Prop}
theorem wpList_textC (hw : Region.wanted o (yielded ops a.tmps) = true) (src dst : TypeId) (x : Operand)
    (ho : o.op = .convert src dst x) (e : TypeId) (hs : Try.prog.underlying src = some (.slice e)) (he : Try.prog.underlying e = some (.int .u8)) (hd : Try.prog.underlying dst = some .string) (v : Value) (xs : List Int) (hx : a.eval x = v) (hb : Bt w v xs)
    (h : wpList Try.prog ops Q rest (a.put o.dst (.string (txt xs))) w) : wpList Try.prog ops Q (o :: rest) a w := by
  obtain ⟨ad, cap, rfl, h1, h2⟩ := hb.row
  refine wpList_value hw _ w ?_ h
  unfold execOp
  simp only [ho, hx, run_text h1 h2 hs he hd, Sem.run_bind, Sem.run_pure, Result.andThen_ok]
theorem wpList_cutC (hw : Region.wanted o (yielded ops a.tmps) = true) (x hi : Operand) (ho : o.op = .slice 49 x none (some hi) none) (v : Value) (xs : List Int) (hx : a.eval x = v) (hb : Bt w v xs)
    (h : Nat) (hj : Int) (hh : a.eval hi = .int .i64 hj) (hhj : hj = (h : Int)) (hn : h ≤ xs.length)
    (hk : ∀ v', Bt w v' (xs.take h) → wpList Try.prog ops Q rest (a.put o.dst v') w) : wpList Try.prog ops Q (o :: rest) a w := by
  subst hhj
  obtain ⟨ad, cap, rfl, h1, h2⟩ := hb.row
  have key := bt_sliced h1 h2 0 h (Nat.zero_le _) hn
  rw [List.drop_zero] at key
  refine wpList_value hw _ w ?_ (hk _ key)
  have hu : Try.prog.underlying 49 = some (.slice (Try.prog.elem 49)) := by kernel_rfl
  have hs : ∀ w, (sizeOf (Try.prog.elem 49)).run Try.prog w = .ok 1 w := fun w => by kernel_rfl
  unfold execOp
  simp only [ho, Option.map_some, Option.map_none, hx, hh, Sem.run_bind, Sem.run_pure, Result.andThen_ok]
  rw [run_sliceAt_slice (h := hu), run_slice_h (ht := hu) (h0 := by omega) (h2 := by have := h2.2.1; omega), hs]
  rfl
end
def zIns : Ins := (0, (0, 0), (0, 0), (0, 0, 0, ⟨#[]⟩, ⟨#[]⟩, 0, 0, 0), 0, [])
def exR : Rec4 := (false, (1, 2, 3), zIns, zSnp)
def exM : Msg7 := (8, 3, 4, (0, 0, 0), (0, 0), zIns, zSnp)
def exB : List Int := [0, 1, 2, 3, 0, 0, 0, 0, 0, 0, 0, 0, 0, 0, 0, 0, 0, 0, 0]
theorem in_zero (w : World) : inS.is w (inV zIns (.slice none 0 0)) zIns := in_mk (x := zIns) (Nat.zero_le _) (Nat.zero_le _) row_nil
theorem exR_is (w : World) : RecIs w (.agg #[.bool false, .int .i64 1, .int .i64 2, .int .i64 3, .int .i64 0, .int .i64 0, .int .i64 0, .int .i64 0, .int .i64 0, .int .i64 0, .int .i64 0, .int .i64 0, .string ⟨#[]⟩, .string ⟨#[]⟩, .int .i64 0, .int .i64 0, .int .i64 0, .int .i64 0, .slice none 0 0, .int .i64 0, .slice none 0 0, .slice none 0 0, .slice none 0 0]) exR := ⟨_, rfl, rc_mk (x := exR) (in_zero w) (sn_zero w)⟩
theorem exM_is (w : World) : MsgIs w (.agg #[.int .i64 8, .int .i64 3, .int .i64 4, .int .i64 0, .int .i64 0, .int .i64 0, .int .i64 0, .int .i64 0, .int .i64 0, .int .i64 0, .int .i64 0, .int .i64 0, .int .i64 0, .int .i64 0, .int .i64 0, .int .i64 0, .string ⟨#[]⟩, .string ⟨#[]⟩, .int .i64 0, .int .i64 0, .int .i64 0, .int .i64 0, .slice none 0 0, .int .i64 0, .slice none 0 0, .slice none 0 0, .slice none 0 0]) exM := ⟨_, rfl, ms_mk (x := exM) (Nat.zero_le _) (Nat.zero_le _) row_nil row_nil row_nil row_nil⟩
theorem exR_ok : Oks (rc0Fs exR) := by unfold Oks; decide +kernel
theorem exM_ok : Oks (msC.fs exM) := by unfold Oks; decide +kernel
theorem exR_b : eF (rc0Fs exR) = exB := by decide +kernel
theorem exM_l : (eF (msC.fs exM)).length = 27 := by decide +kernel
theorem exR_rd : rc0Rd (exB, 0) = (exR, ([], 0)) := by kernel_rfl
theorem exB_g : (gNum (exB, 0)).1 = 0 := by decide +kernel
theorem exB_t : ((txt (exB.take 4)).toList == [0, 1, 2, 3]) = true := by decide +kernel
theorem ms_at {w : World} {cs : Array Value} {x : Msg7} (h : msS.is w cs.toList x) : cs[1]? = some (.int .i64 x.2.1) ∧ cs[2]? = some (.int .i64 x.2.2.1) := by
  obtain ⟨a22, m22, c22, rs22, a24, m24, c24, rs24, a25, m25, c25, rs25, a26, m26, c26, rs26, hcs, _⟩ := ms_is h
  rw [← Array.getElem?_toList, ← Array.getElem?_toList, hcs]
  exact ⟨rfl, rfl⟩
theorem rc_at {w : World} {cs : Array Value} {x : Rec4} (h : rcS.is w cs.toList x) : cs[3]? = some (.int .i64 x.2.1.2.2) := by
  obtain ⟨a18, m18, c18, rs18, a20, m20, c20, rs20, a21, m21, c21, rs21, a22, m22, c22, rs22, hcs, _⟩ := rc_is h
  rw [← Array.getElem?_toList, hcs]
  rfl
theorem rc_one {w : World} {cs : Array Value} {x : Rec4} (h : rcS.is w cs.toList x) : cs.all (·.oneCell') = true := by
  rw [← Array.all_toList]; exact List.all_eq_true.2 (fun v hv => rcS.one h v hv)
/-- A box that is laid, and then written. -/
theorem box_row (w : World) (T : TypeId) (z cs : Array Value) : ((w.alloc (.cells z T)).setRow w.heap.size cs).heap[w.heap.size]? = some (.cells cs T (0, 0)) := heap_setRow_same _ _ z cs _ (bka_new w T z)
theorem box_below (w : World) (T : TypeId) (z cs : Array Value) : Below w.heap.size w ((w.alloc (.cells z T)).setRow w.heap.size cs) := below_setRow ((Below.refl _ _).alloc (Nat.le_refl _) _) (Nat.le_refl _) cs
theorem box_size (w : World) (T : TypeId) (z cs : Array Value) : ((w.alloc (.cells z T)).setRow w.heap.size cs).heap.size = w.heap.size + 1 := by
  rw [(sx_setRow _ _ _).size]; simp
theorem row_cell {w : World} {g : Nat} {cs : Array Value} {T : TypeId} (h : w.heap[g]? = some (.cells cs T (0, 0))) (j : Nat) : w.cell? ⟨g, j, none⟩ = cs[j]? := by
  have := cell_of_row w g j cs T (0, 0) h
  simpa using this
def TruP (w : World) (e : Ending) (w' : World) : Prop := e = .returned (.bool true) ∧ Below w.heap.size w w'
set_option maxRecDepth 100000 in
set_option maxHeartbeats 8000000 in
theorem works_any (w : World) : Calls Try.prog 10 #[] w (TruP w) := by
  have t4 := exB_t
  go_enter Try.func10, Try.ntmps10
  go_wp2_with fail
  refine (put0 _ exR w (exR_is w) rfl rfl).mono ?_
  rintro e w1 hP
  obtain ⟨_, u1, he, ho, hb⟩ := hP.resolve_right (fun h => h.1 exR_ok)
  rw [he.out]
  clear he
  rw [exR_b] at ho
  obtain ⟨a1, c1, hv⟩ : ∃ a1 c1, u1 = .slice a1 19 c1 := ho.slice
  subst hv
  have HU1 := Lib.hid (ho.bt (by decide))
  have HB1 := Lib.hid hb
  clear ho hb
  go_wp2_with fail
  refine (get_any0 _ exB w1 HU1.out (by unfold BytL; decide) (by decide) exB_g).mono ?_
  rintro e w2 ⟨u2, he, hb, hm⟩
  rw [exR_rd] at he hm
  rw [he.out]
  clear he
  obtain ⟨cs2, hv, hs2⟩ := (hm.resolve_right (fun h => h.1 rfl)).2 w2 (fun _ _ _ => rfl)
  subst hv
  have HU2 := Lib.hid (HU1.out.below hb)
  have HB2 := Lib.hid (HB1.out.trans (hb.mono HB1.out.size))
  have HC2 := Lib.hid (rc_at hs2)
  have HO2 := Lib.hid (rc_one hs2)
  have HI2 : Hid ((Try.prog.info? 46).map (·.size) = some cs2.size) := Lib.hid (by rw [rc_size hs2]; kernel_rfl)
  have HZ2 : Hid ((#[.bool false, .int .i64 0, .int .i64 0, .int .i64 0, .int .i64 0, .int .i64 0, .int .i64 0, .int .i64 0, .int .i64 0, .int .i64 0, .int .i64 0, .int .i64 0, .string ⟨#[]⟩, .string ⟨#[]⟩, .int .i64 0, .int .i64 0, .int .i64 0, .int .i64 0, .slice none 0 0, .int .i64 0, .slice none 0 0, .slice none 0 0, .slice none 0 0] : Array Value).size = cs2.size) := Lib.hid (by rw [rc_size hs2]; rfl)
  have HA2 := Lib.hid (bka_new w2 46 (#[.bool false, .int .i64 0, .int .i64 0, .int .i64 0, .int .i64 0, .int .i64 0, .int .i64 0, .int .i64 0, .int .i64 0, .int .i64 0, .int .i64 0, .int .i64 0, .string ⟨#[]⟩, .string ⟨#[]⟩, .int .i64 0, .int .i64 0, .int .i64 0, .int .i64 0, .slice none 0 0, .int .i64 0, .slice none 0 0, .slice none 0 0, .slice none 0 0] : Array Value))
  have HR3 := Lib.hid (box_row w2 46 (#[.bool false, .int .i64 0, .int .i64 0, .int .i64 0, .int .i64 0, .int .i64 0, .int .i64 0, .int .i64 0, .int .i64 0, .int .i64 0, .int .i64 0, .int .i64 0, .string ⟨#[]⟩, .string ⟨#[]⟩, .int .i64 0, .int .i64 0, .int .i64 0, .int .i64 0, .slice none 0 0, .int .i64 0, .slice none 0 0, .slice none 0 0, .slice none 0 0] : Array Value) cs2)
  have HU3 := Lib.hid (HU2.out.below (box_below w2 46 (#[.bool false, .int .i64 0, .int .i64 0, .int .i64 0, .int .i64 0, .int .i64 0, .int .i64 0, .int .i64 0, .int .i64 0, .int .i64 0, .int .i64 0, .int .i64 0, .string ⟨#[]⟩, .string ⟨#[]⟩, .int .i64 0, .int .i64 0, .int .i64 0, .int .i64 0, .slice none 0 0, .int .i64 0, .slice none 0 0, .slice none 0 0, .slice none 0 0] : Array Value) cs2))
  have HB3 := Lib.hid (HB2.out.trans ((box_below w2 46 (#[.bool false, .int .i64 0, .int .i64 0, .int .i64 0, .int .i64 0, .int .i64 0, .int .i64 0, .int .i64 0, .int .i64 0, .int .i64 0, .int .i64 0, .int .i64 0, .string ⟨#[]⟩, .string ⟨#[]⟩, .int .i64 0, .int .i64 0, .int .i64 0, .int .i64 0, .slice none 0 0, .int .i64 0, .slice none 0 0, .slice none 0 0, .slice none 0 0] : Array Value) cs2).mono HB2.out.size))
  have HS3 := Lib.hid (box_size w2 46 (#[.bool false, .int .i64 0, .int .i64 0, .int .i64 0, .int .i64 0, .int .i64 0, .int .i64 0, .int .i64 0, .int .i64 0, .int .i64 0, .int .i64 0, .int .i64 0, .string ⟨#[]⟩, .string ⟨#[]⟩, .int .i64 0, .int .i64 0, .int .i64 0, .int .i64 0, .slice none 0 0, .int .i64 0, .slice none 0 0, .slice none 0 0, .slice none 0 0] : Array Value) cs2)
  have HA4 : Hid ((((w2.alloc (.cells (#[.bool false, .int .i64 0, .int .i64 0, .int .i64 0, .int .i64 0, .int .i64 0, .int .i64 0, .int .i64 0, .int .i64 0, .int .i64 0, .int .i64 0, .int .i64 0, .string ⟨#[]⟩, .string ⟨#[]⟩, .int .i64 0, .int .i64 0, .int .i64 0, .int .i64 0, .slice none 0 0, .int .i64 0, .slice none 0 0, .slice none 0 0, .slice none 0 0] : Array Value) 46)).setRow w2.heap.size cs2).alloc (.cells (#[.int .i64 0, .int .i64 0, .int .i64 0, .int .i64 0, .int .i64 0, .int .i64 0, .int .i64 0, .int .i64 0, .int .i64 0, .int .i64 0, .int .i64 0, .int .i64 0, .int .i64 0, .int .i64 0, .int .i64 0, .int .i64 0, .string ⟨#[]⟩, .string ⟨#[]⟩, .int .i64 0, .int .i64 0, .int .i64 0, .int .i64 0, .slice none 0 0, .int .i64 0, .slice none 0 0, .slice none 0 0, .slice none 0 0] : Array Value) 44)).heap[w2.heap.size + 1]? = some (.cells (#[.int .i64 0, .int .i64 0, .int .i64 0, .int .i64 0, .int .i64 0, .int .i64 0, .int .i64 0, .int .i64 0, .int .i64 0, .int .i64 0, .int .i64 0, .int .i64 0, .int .i64 0, .int .i64 0, .int .i64 0, .int .i64 0, .string ⟨#[]⟩, .string ⟨#[]⟩, .int .i64 0, .int .i64 0, .int .i64 0, .int .i64 0, .slice none 0 0, .int .i64 0, .slice none 0 0, .slice none 0 0, .slice none 0 0] : Array Value) 44 (0, 0))) := Lib.hid (by have := bka_new ((w2.alloc (.cells (#[.bool false, .int .i64 0, .int .i64 0, .int .i64 0, .int .i64 0, .int .i64 0, .int .i64 0, .int .i64 0, .int .i64 0, .int .i64 0, .int .i64 0, .int .i64 0, .string ⟨#[]⟩, .string ⟨#[]⟩, .int .i64 0, .int .i64 0, .int .i64 0, .int .i64 0, .slice none 0 0, .int .i64 0, .slice none 0 0, .slice none 0 0, .slice none 0 0] : Array Value) 46)).setRow w2.heap.size cs2) 44 (#[.int .i64 0, .int .i64 0, .int .i64 0, .int .i64 0, .int .i64 0, .int .i64 0, .int .i64 0, .int .i64 0, .int .i64 0, .int .i64 0, .int .i64 0, .int .i64 0, .int .i64 0, .int .i64 0, .int .i64 0, .int .i64 0, .string ⟨#[]⟩, .string ⟨#[]⟩, .int .i64 0, .int .i64 0, .int .i64 0, .int .i64 0, .slice none 0 0, .int .i64 0, .slice none 0 0, .slice none 0 0, .slice none 0 0] : Array Value); rwa [HS3.out] at this)
  have HR5 : Hid ((((((w2.alloc (.cells (#[.bool false, .int .i64 0, .int .i64 0, .int .i64 0, .int .i64 0, .int .i64 0, .int .i64 0, .int .i64 0, .int .i64 0, .int .i64 0, .int .i64 0, .int .i64 0, .string ⟨#[]⟩, .string ⟨#[]⟩, .int .i64 0, .int .i64 0, .int .i64 0, .int .i64 0, .slice none 0 0, .int .i64 0, .slice none 0 0, .slice none 0 0, .slice none 0 0] : Array Value) 46)).setRow w2.heap.size cs2).alloc (.cells (#[.int .i64 0, .int .i64 0, .int .i64 0, .int .i64 0, .int .i64 0, .int .i64 0, .int .i64 0, .int .i64 0, .int .i64 0, .int .i64 0, .int .i64 0, .int .i64 0, .int .i64 0, .int .i64 0, .int .i64 0, .int .i64 0, .string ⟨#[]⟩, .string ⟨#[]⟩, .int .i64 0, .int .i64 0, .int .i64 0, .int .i64 0, .slice none 0 0, .int .i64 0, .slice none 0 0, .slice none 0 0, .slice none 0 0] : Array Value) 44)).setRow (w2.heap.size + 1) (#[.int .i64 8, .int .i64 3, .int .i64 4, .int .i64 0, .int .i64 0, .int .i64 0, .int .i64 0, .int .i64 0, .int .i64 0, .int .i64 0, .int .i64 0, .int .i64 0, .int .i64 0, .int .i64 0, .int .i64 0, .int .i64 0, .string ⟨#[]⟩, .string ⟨#[]⟩, .int .i64 0, .int .i64 0, .int .i64 0, .int .i64 0, .slice none 0 0, .int .i64 0, .slice none 0 0, .slice none 0 0, .slice none 0 0] : Array Value))).heap[w2.heap.size + 1]? = some (.cells (#[.int .i64 8, .int .i64 3, .int .i64 4, .int .i64 0, .int .i64 0, .int .i64 0, .int .i64 0, .int .i64 0, .int .i64 0, .int .i64 0, .int .i64 0, .int .i64 0, .int .i64 0, .int .i64 0, .int .i64 0, .int .i64 0, .string ⟨#[]⟩, .string ⟨#[]⟩, .int .i64 0, .int .i64 0, .int .i64 0, .int .i64 0, .slice none 0 0, .int .i64 0, .slice none 0 0, .slice none 0 0, .slice none 0 0] : Array Value) 44 (0, 0))) := Lib.hid (by have := box_row ((w2.alloc (.cells (#[.bool false, .int .i64 0, .int .i64 0, .int .i64 0, .int .i64 0, .int .i64 0, .int .i64 0, .int .i64 0, .int .i64 0, .int .i64 0, .int .i64 0, .int .i64 0, .string ⟨#[]⟩, .string ⟨#[]⟩, .int .i64 0, .int .i64 0, .int .i64 0, .int .i64 0, .slice none 0 0, .int .i64 0, .slice none 0 0, .slice none 0 0, .slice none 0 0] : Array Value) 46)).setRow w2.heap.size cs2) 44 (#[.int .i64 0, .int .i64 0, .int .i64 0, .int .i64 0, .int .i64 0, .int .i64 0, .int .i64 0, .int .i64 0, .int .i64 0, .int .i64 0, .int .i64 0, .int .i64 0, .int .i64 0, .int .i64 0, .int .i64 0, .int .i64 0, .string ⟨#[]⟩, .string ⟨#[]⟩, .int .i64 0, .int .i64 0, .int .i64 0, .int .i64 0, .slice none 0 0, .int .i64 0, .slice none 0 0, .slice none 0 0, .slice none 0 0] : Array Value) (#[.int .i64 8, .int .i64 3, .int .i64 4, .int .i64 0, .int .i64 0, .int .i64 0, .int .i64 0, .int .i64 0, .int .i64 0, .int .i64 0, .int .i64 0, .int .i64 0, .int .i64 0, .int .i64 0, .int .i64 0, .int .i64 0, .string ⟨#[]⟩, .string ⟨#[]⟩, .int .i64 0, .int .i64 0, .int .i64 0, .int .i64 0, .slice none 0 0, .int .i64 0, .slice none 0 0, .slice none 0 0, .slice none 0 0] : Array Value); rwa [HS3.out] at this)
  have HB5 : Hid (Below (w2.heap.size + 1) ((w2.alloc (.cells (#[.bool false, .int .i64 0, .int .i64 0, .int .i64 0, .int .i64 0, .int .i64 0, .int .i64 0, .int .i64 0, .int .i64 0, .int .i64 0, .int .i64 0, .int .i64 0, .string ⟨#[]⟩, .string ⟨#[]⟩, .int .i64 0, .int .i64 0, .int .i64 0, .int .i64 0, .slice none 0 0, .int .i64 0, .slice none 0 0, .slice none 0 0, .slice none 0 0] : Array Value) 46)).setRow w2.heap.size cs2) ((((w2.alloc (.cells (#[.bool false, .int .i64 0, .int .i64 0, .int .i64 0, .int .i64 0, .int .i64 0, .int .i64 0, .int .i64 0, .int .i64 0, .int .i64 0, .int .i64 0, .int .i64 0, .string ⟨#[]⟩, .string ⟨#[]⟩, .int .i64 0, .int .i64 0, .int .i64 0, .int .i64 0, .slice none 0 0, .int .i64 0, .slice none 0 0, .slice none 0 0, .slice none 0 0] : Array Value) 46)).setRow w2.heap.size cs2).alloc (.cells (#[.int .i64 0, .int .i64 0, .int .i64 0, .int .i64 0, .int .i64 0, .int .i64 0, .int .i64 0, .int .i64 0, .int .i64 0, .int .i64 0, .int .i64 0, .int .i64 0, .int .i64 0, .int .i64 0, .int .i64 0, .int .i64 0, .string ⟨#[]⟩, .string ⟨#[]⟩, .int .i64 0, .int .i64 0, .int .i64 0, .int .i64 0, .slice none 0 0, .int .i64 0, .slice none 0 0, .slice none 0 0, .slice none 0 0] : Array Value) 44)).setRow (w2.heap.size + 1) (#[.int .i64 8, .int .i64 3, .int .i64 4, .int .i64 0, .int .i64 0, .int .i64 0, .int .i64 0, .int .i64 0, .int .i64 0, .int .i64 0, .int .i64 0, .int .i64 0, .int .i64 0, .int .i64 0, .int .i64 0, .int .i64 0, .string ⟨#[]⟩, .string ⟨#[]⟩, .int .i64 0, .int .i64 0, .int .i64 0, .int .i64 0, .slice none 0 0, .int .i64 0, .slice none 0 0, .slice none 0 0, .slice none 0 0] : Array Value))) := Lib.hid (by have := box_below ((w2.alloc (.cells (#[.bool false, .int .i64 0, .int .i64 0, .int .i64 0, .int .i64 0, .int .i64 0, .int .i64 0, .int .i64 0, .int .i64 0, .int .i64 0, .int .i64 0, .int .i64 0, .string ⟨#[]⟩, .string ⟨#[]⟩, .int .i64 0, .int .i64 0, .int .i64 0, .int .i64 0, .slice none 0 0, .int .i64 0, .slice none 0 0, .slice none 0 0, .slice none 0 0] : Array Value) 46)).setRow w2.heap.size cs2) 44 (#[.int .i64 0, .int .i64 0, .int .i64 0, .int .i64 0, .int .i64 0, .int .i64 0, .int .i64 0, .int .i64 0, .int .i64 0, .int .i64 0, .int .i64 0, .int .i64 0, .int .i64 0, .int .i64 0, .int .i64 0, .int .i64 0, .string ⟨#[]⟩, .string ⟨#[]⟩, .int .i64 0, .int .i64 0, .int .i64 0, .int .i64 0, .slice none 0 0, .int .i64 0, .slice none 0 0, .slice none 0 0, .slice none 0 0] : Array Value) (#[.int .i64 8, .int .i64 3, .int .i64 4, .int .i64 0, .int .i64 0, .int .i64 0, .int .i64 0, .int .i64 0, .int .i64 0, .int .i64 0, .int .i64 0, .int .i64 0, .int .i64 0, .int .i64 0, .int .i64 0, .int .i64 0, .string ⟨#[]⟩, .string ⟨#[]⟩, .int .i64 0, .int .i64 0, .int .i64 0, .int .i64 0, .slice none 0 0, .int .i64 0, .slice none 0 0, .slice none 0 0, .slice none 0 0] : Array Value); rwa [HS3.out] at this)
  have HS5 : Hid (((((w2.alloc (.cells (#[.bool false, .int .i64 0, .int .i64 0, .int .i64 0, .int .i64 0, .int .i64 0, .int .i64 0, .int .i64 0, .int .i64 0, .int .i64 0, .int .i64 0, .int .i64 0, .string ⟨#[]⟩, .string ⟨#[]⟩, .int .i64 0, .int .i64 0, .int .i64 0, .int .i64 0, .slice none 0 0, .int .i64 0, .slice none 0 0, .slice none 0 0, .slice none 0 0] : Array Value) 46)).setRow w2.heap.size cs2).alloc (.cells (#[.int .i64 0, .int .i64 0, .int .i64 0, .int .i64 0, .int .i64 0, .int .i64 0, .int .i64 0, .int .i64 0, .int .i64 0, .int .i64 0, .int .i64 0, .int .i64 0, .int .i64 0, .int .i64 0, .int .i64 0, .int .i64 0, .string ⟨#[]⟩, .string ⟨#[]⟩, .int .i64 0, .int .i64 0, .int .i64 0, .int .i64 0, .slice none 0 0, .int .i64 0, .slice none 0 0, .slice none 0 0, .slice none 0 0] : Array Value) 44)).setRow (w2.heap.size + 1) (#[.int .i64 8, .int .i64 3, .int .i64 4, .int .i64 0, .int .i64 0, .int .i64 0, .int .i64 0, .int .i64 0, .int .i64 0, .int .i64 0, .int .i64 0, .int .i64 0, .int .i64 0, .int .i64 0, .int .i64 0, .int .i64 0, .string ⟨#[]⟩, .string ⟨#[]⟩, .int .i64 0, .int .i64 0, .int .i64 0, .int .i64 0, .slice none 0 0, .int .i64 0, .slice none 0 0, .slice none 0 0, .slice none 0 0] : Array Value)).heap.size = w2.heap.size + 2) := Lib.hid (by have := box_size ((w2.alloc (.cells (#[.bool false, .int .i64 0, .int .i64 0, .int .i64 0, .int .i64 0, .int .i64 0, .int .i64 0, .int .i64 0, .int .i64 0, .int .i64 0, .int .i64 0, .int .i64 0, .string ⟨#[]⟩, .string ⟨#[]⟩, .int .i64 0, .int .i64 0, .int .i64 0, .int .i64 0, .slice none 0 0, .int .i64 0, .slice none 0 0, .slice none 0 0, .slice none 0 0] : Array Value) 46)).setRow w2.heap.size cs2) 44 (#[.int .i64 0, .int .i64 0, .int .i64 0, .int .i64 0, .int .i64 0, .int .i64 0, .int .i64 0, .int .i64 0, .int .i64 0, .int .i64 0, .int .i64 0, .int .i64 0, .int .i64 0, .int .i64 0, .int .i64 0, .int .i64 0, .string ⟨#[]⟩, .string ⟨#[]⟩, .int .i64 0, .int .i64 0, .int .i64 0, .int .i64 0, .slice none 0 0, .int .i64 0, .slice none 0 0, .slice none 0 0, .slice none 0 0] : Array Value) (#[.int .i64 8, .int .i64 3, .int .i64 4, .int .i64 0, .int .i64 0, .int .i64 0, .int .i64 0, .int .i64 0, .int .i64 0, .int .i64 0, .int .i64 0, .int .i64 0, .int .i64 0, .int .i64 0, .int .i64 0, .int .i64 0, .string ⟨#[]⟩, .string ⟨#[]⟩, .int .i64 0, .int .i64 0, .int .i64 0, .int .i64 0, .slice none 0 0, .int .i64 0, .slice none 0 0, .slice none 0 0, .slice none 0 0] : Array Value); rwa [HS3.out] at this)
  have HIm : Hid ((Try.prog.info? 44).map (·.size) = some ((#[.int .i64 8, .int .i64 3, .int .i64 4, .int .i64 0, .int .i64 0, .int .i64 0, .int .i64 0, .int .i64 0, .int .i64 0, .int .i64 0, .int .i64 0, .int .i64 0, .int .i64 0, .int .i64 0, .int .i64 0, .int .i64 0, .string ⟨#[]⟩, .string ⟨#[]⟩, .int .i64 0, .int .i64 0, .int .i64 0, .int .i64 0, .slice none 0 0, .int .i64 0, .slice none 0 0, .slice none 0 0, .slice none 0 0] : Array Value) : Array Value).size) := Lib.hid (by kernel_rfl)
  have HOm : Hid (((#[.int .i64 8, .int .i64 3, .int .i64 4, .int .i64 0, .int .i64 0, .int .i64 0, .int .i64 0, .int .i64 0, .int .i64 0, .int .i64 0, .int .i64 0, .int .i64 0, .int .i64 0, .int .i64 0, .int .i64 0, .int .i64 0, .string ⟨#[]⟩, .string ⟨#[]⟩, .int .i64 0, .int .i64 0, .int .i64 0, .int .i64 0, .slice none 0 0, .int .i64 0, .slice none 0 0, .slice none 0 0, .slice none 0 0] : Array Value) : Array Value).all (·.oneCell') = true) := Lib.hid (by rw [← Array.all_toList]; rfl)
  clear hb hm hs2 HU1
  rw [show endE (exR, (([] : List Int), (0 : Int))).2 = 0 from rfl]
  go_wp2_with (first | refine wpList_store_row rfl 46 _ _ rfl w2.heap.size rfl cs2 rfl (#[.bool false, .int .i64 0, .int .i64 0, .int .i64 0, .int .i64 0, .int .i64 0, .int .i64 0, .int .i64 0, .int .i64 0, .int .i64 0, .int .i64 0, .int .i64 0, .string ⟨#[]⟩, .string ⟨#[]⟩, .int .i64 0, .int .i64 0, .int .i64 0, .int .i64 0, .slice none 0 0, .int .i64 0, .slice none 0 0, .slice none 0 0, .slice none 0 0] : Array Value) 46 HA2.out HI2.out HZ2.out HO2.out ?_ | refine wpList_store_row rfl 44 _ _ rfl (w2.heap.size + 1) rfl (#[.int .i64 8, .int .i64 3, .int .i64 4, .int .i64 0, .int .i64 0, .int .i64 0, .int .i64 0, .int .i64 0, .int .i64 0, .int .i64 0, .int .i64 0, .int .i64 0, .int .i64 0, .int .i64 0, .int .i64 0, .int .i64 0, .string ⟨#[]⟩, .string ⟨#[]⟩, .int .i64 0, .int .i64 0, .int .i64 0, .int .i64 0, .slice none 0 0, .int .i64 0, .slice none 0 0, .slice none 0 0, .slice none 0 0] : Array Value) rfl (#[.int .i64 0, .int .i64 0, .int .i64 0, .int .i64 0, .int .i64 0, .int .i64 0, .int .i64 0, .int .i64 0, .int .i64 0, .int .i64 0, .int .i64 0, .int .i64 0, .int .i64 0, .int .i64 0, .int .i64 0, .int .i64 0, .string ⟨#[]⟩, .string ⟨#[]⟩, .int .i64 0, .int .i64 0, .int .i64 0, .int .i64 0, .slice none 0 0, .int .i64 0, .slice none 0 0, .slice none 0 0, .slice none 0 0] : Array Value) 44 HA4.out HIm.out rfl HOm.out ?_ | refine wpList_load_row rfl _ _ rfl (w2.heap.size + 1) rfl 44 (#[.int .i64 8, .int .i64 3, .int .i64 4, .int .i64 0, .int .i64 0, .int .i64 0, .int .i64 0, .int .i64 0, .int .i64 0, .int .i64 0, .int .i64 0, .int .i64 0, .int .i64 0, .int .i64 0, .int .i64 0, .int .i64 0, .string ⟨#[]⟩, .string ⟨#[]⟩, .int .i64 0, .int .i64 0, .int .i64 0, .int .i64 0, .slice none 0 0, .int .i64 0, .slice none 0 0, .slice none 0 0, .slice none 0 0] : Array Value) (0, 0) _ HR5.out Try.underlying44 rfl HIm.out ?_)
  have HR35 := Lib.hid ((HB5.out.block _ (Nat.lt_succ_self _)).trans HR3.out)
  have HU5 := Lib.hid (HU3.out.below (by rw [HS3.out]; exact HB5.out))
  have HB05 := Lib.hid (HB3.out.trans (HB5.out.mono (by have := HB2.out.size; omega)))
  clear HR3 HU3 HB3 HS3 HA4 HA2 HB5
  have HME : Hid (∀ w : World, MsgIs w (.agg (#[.int .i64 8, .int .i64 3, .int .i64 4, .int .i64 0, .int .i64 0, .int .i64 0, .int .i64 0, .int .i64 0, .int .i64 0, .int .i64 0, .int .i64 0, .int .i64 0, .int .i64 0, .int .i64 0, .int .i64 0, .int .i64 0, .string ⟨#[]⟩, .string ⟨#[]⟩, .int .i64 0, .int .i64 0, .int .i64 0, .int .i64 0, .slice none 0 0, .int .i64 0, .slice none 0 0, .slice none 0 0, .slice none 0 0] : Array Value)) exM) := Lib.hid exM_is
  generalize ((((w2.alloc (.cells (#[.bool false, .int .i64 0, .int .i64 0, .int .i64 0, .int .i64 0, .int .i64 0, .int .i64 0, .int .i64 0, .int .i64 0, .int .i64 0, .int .i64 0, .int .i64 0, .string ⟨#[]⟩, .string ⟨#[]⟩, .int .i64 0, .int .i64 0, .int .i64 0, .int .i64 0, .slice none 0 0, .int .i64 0, .slice none 0 0, .slice none 0 0, .slice none 0 0] : Array Value) 46)).setRow w2.heap.size cs2).alloc (.cells (#[.int .i64 0, .int .i64 0, .int .i64 0, .int .i64 0, .int .i64 0, .int .i64 0, .int .i64 0, .int .i64 0, .int .i64 0, .int .i64 0, .int .i64 0, .int .i64 0, .int .i64 0, .int .i64 0, .int .i64 0, .int .i64 0, .string ⟨#[]⟩, .string ⟨#[]⟩, .int .i64 0, .int .i64 0, .int .i64 0, .int .i64 0, .slice none 0 0, .int .i64 0, .slice none 0 0, .slice none 0 0, .slice none 0 0] : Array Value) 44)).setRow (w2.heap.size + 1) (#[.int .i64 8, .int .i64 3, .int .i64 4, .int .i64 0, .int .i64 0, .int .i64 0, .int .i64 0, .int .i64 0, .int .i64 0, .int .i64 0, .int .i64 0, .int .i64 0, .int .i64 0, .int .i64 0, .int .i64 0, .int .i64 0, .string ⟨#[]⟩, .string ⟨#[]⟩, .int .i64 0, .int .i64 0, .int .i64 0, .int .i64 0, .slice none 0 0, .int .i64 0, .slice none 0 0, .slice none 0 0, .slice none 0 0] : Array Value)) = w5 at *
  generalize (#[.int .i64 8, .int .i64 3, .int .i64 4, .int .i64 0, .int .i64 0, .int .i64 0, .int .i64 0, .int .i64 0, .int .i64 0, .int .i64 0, .int .i64 0, .int .i64 0, .int .i64 0, .int .i64 0, .int .i64 0, .int .i64 0, .string ⟨#[]⟩, .string ⟨#[]⟩, .int .i64 0, .int .i64 0, .int .i64 0, .int .i64 0, .slice none 0 0, .int .i64 0, .slice none 0 0, .slice none 0 0, .slice none 0 0] : Array Value) = zv at *
  refine (msg_any _ exM w5 (HME.out w5)).mono ?_
  rintro e w6 hP
  obtain ⟨_, u6, he, ho, hb⟩ := hP.resolve_right (fun h => h.1 exM_ok)
  rw [he.out]
  clear he
  obtain ⟨a6, c6, hv⟩ : ∃ a6 c6, u6 = .slice a6 27 c6 := by
    have := ho.slice
    rwa [exM_l] at this
  subst hv
  have HU6 := Lib.hid (ho.bt (by rw [exM_l]; decide))
  have HB6 := Lib.hid (HB05.out.trans (hb.mono HB05.out.size))
  have HR36 := Lib.hid ((hb.block _ (by rw [HS5.out]; omega)).trans HR35.out)
  have HR66 := Lib.hid ((hb.block _ (by rw [HS5.out]; omega)).trans HR5.out)
  have HBe := Lib.hid (HU5.out.below hb)
  have HS6 : Hid (w2.heap.size + 2 ≤ w6.heap.size) := Lib.hid (by have := hb.size; have := HS5.out; omega)
  clear ho hb hP HU5 HB05 HR35 HR5 HS5 HU2 HB2 HB1
  go_wp2_with fail
  refine (ofmsg_c _ (eF (msC.fs exM)) w6 HU6.out (eF_byte exM_ok) (by rw [exM_l]; decide)).mono ?_
  rintro e w7 ⟨cs7, he, hsz, hone, hb, hm⟩
  rw [Pc.ms_back exM_ok] at he hm
  rw [he.out, show endE (exM, (([] : List Int), (0 : Int))).2 = 0 from rfl]
  clear he
  have HC7 := Lib.hid (ms_at (hm rfl w7 (fun _ _ _ => rfl))).1
  have HI7 : Hid ((Try.prog.info? 44).map (·.size) = some cs7.size) := Lib.hid (by rw [hsz]; kernel_rfl)
  have HZ7 : Hid ((#[.int .i64 0, .int .i64 0, .int .i64 0, .int .i64 0, .int .i64 0, .int .i64 0, .int .i64 0, .int .i64 0, .int .i64 0, .int .i64 0, .int .i64 0, .int .i64 0, .int .i64 0, .int .i64 0, .int .i64 0, .int .i64 0, .string ⟨#[]⟩, .string ⟨#[]⟩, .int .i64 0, .int .i64 0, .int .i64 0, .int .i64 0, .slice none 0 0, .int .i64 0, .slice none 0 0, .slice none 0 0, .slice none 0 0] : Array Value).size = cs7.size) := Lib.hid (by rw [hsz]; rfl)
  have HO7 := Lib.hid hone
  have HA7 := Lib.hid (bka_new w7 44 (#[.int .i64 0, .int .i64 0, .int .i64 0, .int .i64 0, .int .i64 0, .int .i64 0, .int .i64 0, .int .i64 0, .int .i64 0, .int .i64 0, .int .i64 0, .int .i64 0, .int .i64 0, .int .i64 0, .int .i64 0, .int .i64 0, .string ⟨#[]⟩, .string ⟨#[]⟩, .int .i64 0, .int .i64 0, .int .i64 0, .int .i64 0, .slice none 0 0, .int .i64 0, .slice none 0 0, .slice none 0 0, .slice none 0 0] : Array Value))
  have HW7 := Lib.hid (hb.trans ((box_below w7 44 (#[.int .i64 0, .int .i64 0, .int .i64 0, .int .i64 0, .int .i64 0, .int .i64 0, .int .i64 0, .int .i64 0, .int .i64 0, .int .i64 0, .int .i64 0, .int .i64 0, .int .i64 0, .int .i64 0, .int .i64 0, .int .i64 0, .string ⟨#[]⟩, .string ⟨#[]⟩, .int .i64 0, .int .i64 0, .int .i64 0, .int .i64 0, .slice none 0 0, .int .i64 0, .slice none 0 0, .slice none 0 0, .slice none 0 0] : Array Value) cs7).mono hb.size))
  have HR78 := Lib.hid (box_row w7 44 (#[.int .i64 0, .int .i64 0, .int .i64 0, .int .i64 0, .int .i64 0, .int .i64 0, .int .i64 0, .int .i64 0, .int .i64 0, .int .i64 0, .int .i64 0, .int .i64 0, .int .i64 0, .int .i64 0, .int .i64 0, .int .i64 0, .string ⟨#[]⟩, .string ⟨#[]⟩, .int .i64 0, .int .i64 0, .int .i64 0, .int .i64 0, .slice none 0 0, .int .i64 0, .slice none 0 0, .slice none 0 0, .slice none 0 0] : Array Value) cs7)
  have HR38 := Lib.hid ((HW7.out.block _ (by have := HS6.out; omega)).trans HR36.out)
  have HR68 := Lib.hid ((HW7.out.block _ (by have := HS6.out; omega)).trans HR66.out)
  have HB8 := Lib.hid (HB6.out.trans (HW7.out.mono HB6.out.size))
  have HBe8 := Lib.hid (HBe.out.below HW7.out)
  have HS8 : Hid (((w7.alloc (.cells (#[.int .i64 0, .int .i64 0, .int .i64 0, .int .i64 0, .int .i64 0, .int .i64 0, .int .i64 0, .int .i64 0, .int .i64 0, .int .i64 0, .int .i64 0, .int .i64 0, .int .i64 0, .int .i64 0, .int .i64 0, .int .i64 0, .string ⟨#[]⟩, .string ⟨#[]⟩, .int .i64 0, .int .i64 0, .int .i64 0, .int .i64 0, .slice none 0 0, .int .i64 0, .slice none 0 0, .slice none 0 0, .slice none 0 0] : Array Value) 44)).setRow w7.heap.size cs7).heap.size = w7.heap.size + 1) := Lib.hid (box_size w7 44 (#[.int .i64 0, .int .i64 0, .int .i64 0, .int .i64 0, .int .i64 0, .int .i64 0, .int .i64 0, .int .i64 0, .int .i64 0, .int .i64 0, .int .i64 0, .int .i64 0, .int .i64 0, .int .i64 0, .int .i64 0, .int .i64 0, .string ⟨#[]⟩, .string ⟨#[]⟩, .int .i64 0, .int .i64 0, .int .i64 0, .int .i64 0, .slice none 0 0, .int .i64 0, .slice none 0 0, .slice none 0 0, .slice none 0 0] : Array Value) cs7)
  have HL78 : Hid (w2.heap.size + 2 ≤ w7.heap.size) := Lib.hid (by have := hb.size; have := HS6.out; omega)
  clear hsz hone hb hm HW7 HU6 HR36 HR66 HB6 HBe HS6
  go_wp2_with (first | refine wpList_store_row rfl 44 _ _ rfl w7.heap.size rfl cs7 rfl (#[.int .i64 0, .int .i64 0, .int .i64 0, .int .i64 0, .int .i64 0, .int .i64 0, .int .i64 0, .int .i64 0, .int .i64 0, .int .i64 0, .int .i64 0, .int .i64 0, .int .i64 0, .int .i64 0, .int .i64 0, .int .i64 0, .string ⟨#[]⟩, .string ⟨#[]⟩, .int .i64 0, .int .i64 0, .int .i64 0, .int .i64 0, .slice none 0 0, .int .i64 0, .slice none 0 0, .slice none 0 0, .slice none 0 0] : Array Value) 44 HA7.out HI7.out HZ7.out HO7.out ?_ | refine wpList_load_row rfl _ _ rfl (w2.heap.size + 1) rfl 44 zv (0, 0) _ HR68.out Try.underlying44 rfl HIm.out ?_)
  generalize (w7.alloc (.cells (#[.int .i64 0, .int .i64 0, .int .i64 0, .int .i64 0, .int .i64 0, .int .i64 0, .int .i64 0, .int .i64 0, .int .i64 0, .int .i64 0, .int .i64 0, .int .i64 0, .int .i64 0, .int .i64 0, .int .i64 0, .int .i64 0, .string ⟨#[]⟩, .string ⟨#[]⟩, .int .i64 0, .int .i64 0, .int .i64 0, .int .i64 0, .slice none 0 0, .int .i64 0, .slice none 0 0, .slice none 0 0, .slice none 0 0] : Array Value) 44)).setRow w7.heap.size cs7 = w8 at *
  clear HA7 HI7 HZ7 HO7 HR68
  refine (frame_any _ exM w8 (HME.out w8)).mono ?_
  rintro e w9 hP
  obtain ⟨_, _, u9, he, ho, hb⟩ := hP.resolve_right (fun h => h.elim (fun k => k.2.1 (by rw [exM_l]; decide)) (fun k => k.1 exM_ok))
  rw [he.out]
  clear he
  obtain ⟨a9, c9, hv, _⟩ := ho.row
  subst hv
  have HU9 := Lib.hid ho
  have HB9 := Lib.hid (HB8.out.trans (hb.mono HB8.out.size))
  have HR39 := Lib.hid ((hb.block _ (by have := HS8.out; have := HL78.out; omega)).trans HR38.out)
  have HR79 := Lib.hid ((hb.block _ (by have := HS8.out; omega)).trans HR78.out)
  have HBe9 := Lib.hid (HBe8.out.below hb)
  have HL9 : Hid (w7.heap.size + 1 ≤ w9.heap.size) := Lib.hid (by have := hb.size; have := HS8.out; omega)
  clear ho hb hP HB8 HR38 HR78 HBe8 HS8
  go_wp2_with fail
  refine (offrame_any _ (frm (eF (msC.fs exM))) w9 HU9.out (frm_range (eF_byte exM_ok) (by rw [exM_l]; decide)) (by rw [frm_length, exM_l]; decide)).mono ?_
  have hfr := Pc.ofE_frame exM_ok (by rw [exM_l]; decide)
  rw [hfr.2, hfr.1]
  rintro e w10 ⟨cs10, he, hsz, hone, hb, hm⟩
  rw [Pc.ms_back exM_ok] at hm
  rw [he.out]
  clear he hfr
  have HC10 := Lib.hid (ms_at (hm rfl w10 (fun _ _ _ => rfl))).2
  have HI10 : Hid ((Try.prog.info? 44).map (·.size) = some cs10.size) := Lib.hid (by rw [hsz]; kernel_rfl)
  have HZ10 : Hid ((#[.int .i64 0, .int .i64 0, .int .i64 0, .int .i64 0, .int .i64 0, .int .i64 0, .int .i64 0, .int .i64 0, .int .i64 0, .int .i64 0, .int .i64 0, .int .i64 0, .int .i64 0, .int .i64 0, .int .i64 0, .int .i64 0, .string ⟨#[]⟩, .string ⟨#[]⟩, .int .i64 0, .int .i64 0, .int .i64 0, .int .i64 0, .slice none 0 0, .int .i64 0, .slice none 0 0, .slice none 0 0, .slice none 0 0] : Array Value).size = cs10.size) := Lib.hid (by rw [hsz]; rfl)
  have HO10 := Lib.hid hone
  have HA10 := Lib.hid (bka_new w10 44 (#[.int .i64 0, .int .i64 0, .int .i64 0, .int .i64 0, .int .i64 0, .int .i64 0, .int .i64 0, .int .i64 0, .int .i64 0, .int .i64 0, .int .i64 0, .int .i64 0, .int .i64 0, .int .i64 0, .int .i64 0, .int .i64 0, .string ⟨#[]⟩, .string ⟨#[]⟩, .int .i64 0, .int .i64 0, .int .i64 0, .int .i64 0, .slice none 0 0, .int .i64 0, .slice none 0 0, .slice none 0 0, .slice none 0 0] : Array Value))
  have HW10 := Lib.hid (hb.trans ((box_below w10 44 (#[.int .i64 0, .int .i64 0, .int .i64 0, .int .i64 0, .int .i64 0, .int .i64 0, .int .i64 0, .int .i64 0, .int .i64 0, .int .i64 0, .int .i64 0, .int .i64 0, .int .i64 0, .int .i64 0, .int .i64 0, .int .i64 0, .string ⟨#[]⟩, .string ⟨#[]⟩, .int .i64 0, .int .i64 0, .int .i64 0, .int .i64 0, .slice none 0 0, .int .i64 0, .slice none 0 0, .slice none 0 0, .slice none 0 0] : Array Value) cs10).mono hb.size))
  have k3 : ((w10.alloc (.cells (#[.int .i64 0, .int .i64 0, .int .i64 0, .int .i64 0, .int .i64 0, .int .i64 0, .int .i64 0, .int .i64 0, .int .i64 0, .int .i64 0, .int .i64 0, .int .i64 0, .int .i64 0, .int .i64 0, .int .i64 0, .int .i64 0, .string ⟨#[]⟩, .string ⟨#[]⟩, .int .i64 0, .int .i64 0, .int .i64 0, .int .i64 0, .slice none 0 0, .int .i64 0, .slice none 0 0, .slice none 0 0, .slice none 0 0] : Array Value) 44)).setRow w10.heap.size cs10).cell? ⟨w2.heap.size, 3, none⟩ = some (.int .i64 3) := (row_cell ((HW10.out.block _ (by have := HL9.out; have := HL78.out; omega)).trans HR39.out) 3).trans HC2.out
  have k1 : ((w10.alloc (.cells (#[.int .i64 0, .int .i64 0, .int .i64 0, .int .i64 0, .int .i64 0, .int .i64 0, .int .i64 0, .int .i64 0, .int .i64 0, .int .i64 0, .int .i64 0, .int .i64 0, .int .i64 0, .int .i64 0, .int .i64 0, .int .i64 0, .string ⟨#[]⟩, .string ⟨#[]⟩, .int .i64 0, .int .i64 0, .int .i64 0, .int .i64 0, .slice none 0 0, .int .i64 0, .slice none 0 0, .slice none 0 0, .slice none 0 0] : Array Value) 44)).setRow w10.heap.size cs10).cell? ⟨w7.heap.size, 1, none⟩ = some (.int .i64 3) := (row_cell ((HW10.out.block _ (by have := HL9.out; omega)).trans HR79.out) 1).trans HC7.out
  have k2 : ((w10.alloc (.cells (#[.int .i64 0, .int .i64 0, .int .i64 0, .int .i64 0, .int .i64 0, .int .i64 0, .int .i64 0, .int .i64 0, .int .i64 0, .int .i64 0, .int .i64 0, .int .i64 0, .int .i64 0, .int .i64 0, .int .i64 0, .int .i64 0, .string ⟨#[]⟩, .string ⟨#[]⟩, .int .i64 0, .int .i64 0, .int .i64 0, .int .i64 0, .slice none 0 0, .int .i64 0, .slice none 0 0, .slice none 0 0, .slice none 0 0] : Array Value) 44)).setRow w10.heap.size cs10).cell? ⟨w10.heap.size, 2, none⟩ = some (.int .i64 4) := (row_cell (box_row w10 44 (#[.int .i64 0, .int .i64 0, .int .i64 0, .int .i64 0, .int .i64 0, .int .i64 0, .int .i64 0, .int .i64 0, .int .i64 0, .int .i64 0, .int .i64 0, .int .i64 0, .int .i64 0, .int .i64 0, .int .i64 0, .int .i64 0, .string ⟨#[]⟩, .string ⟨#[]⟩, .int .i64 0, .int .i64 0, .int .i64 0, .int .i64 0, .slice none 0 0, .int .i64 0, .slice none 0 0, .slice none 0 0, .slice none 0 0] : Array Value) cs10) 2).trans HC10.out
  have HBF := Lib.hid (HB9.out.trans (HW10.out.mono HB9.out.size))
  have HBeF := Lib.hid (HBe9.out.below HW10.out)
  have hc1 : 4 ≤ c1 := by
    obtain ⟨ad, cap, e, h1, h2⟩ := HBeF.out.row
    simp only [Value.slice.injEq] at e
    have h3 := h2.2.1
    have h5 : exB.length = 19 := rfl
    omega
  have hc2 : (4 : Int) ≤ (c1 : Int) := by omega
  have H4 : Bt ((w10.alloc (.cells (#[.int .i64 0, .int .i64 0, .int .i64 0, .int .i64 0, .int .i64 0, .int .i64 0, .int .i64 0, .int .i64 0, .int .i64 0, .int .i64 0, .int .i64 0, .int .i64 0, .int .i64 0, .int .i64 0, .int .i64 0, .int .i64 0, .string ⟨#[]⟩, .string ⟨#[]⟩, .int .i64 0, .int .i64 0, .int .i64 0, .int .i64 0, .slice none 0 0, .int .i64 0, .slice none 0 0, .slice none 0 0, .slice none 0 0] : Array Value) 44)).setRow w10.heap.size cs10) (.slice a1 4 c1) (exB.take 4) := by
    obtain ⟨ad, cap, e, h1, h2⟩ := HBeF.out.row
    simp only [Value.slice.injEq] at e
    obtain ⟨rfl, _, rfl⟩ := e
    have key := bt_sliced h1 h2 0 4 (by decide) (by decide)
    rcases a1 with _ | ⟨g, o, m⟩
    · simpa [sliced] using key
    · simpa [sliced, Addr.add] using key
  have hcv : (convert 49 9 (.slice a1 4 c1)).run Try.prog ((w10.alloc (.cells (#[.int .i64 0, .int .i64 0, .int .i64 0, .int .i64 0, .int .i64 0, .int .i64 0, .int .i64 0, .int .i64 0, .int .i64 0, .int .i64 0, .int .i64 0, .int .i64 0, .int .i64 0, .int .i64 0, .int .i64 0, .int .i64 0, .string ⟨#[]⟩, .string ⟨#[]⟩, .int .i64 0, .int .i64 0, .int .i64 0, .int .i64 0, .slice none 0 0, .int .i64 0, .slice none 0 0, .slice none 0 0, .slice none 0 0] : Array Value) 44)).setRow w10.heap.size cs10) = .ok (.string (txt (exB.take 4))) ((w10.alloc (.cells (#[.int .i64 0, .int .i64 0, .int .i64 0, .int .i64 0, .int .i64 0, .int .i64 0, .int .i64 0, .int .i64 0, .int .i64 0, .int .i64 0, .int .i64 0, .int .i64 0, .int .i64 0, .int .i64 0, .int .i64 0, .int .i64 0, .string ⟨#[]⟩, .string ⟨#[]⟩, .int .i64 0, .int .i64 0, .int .i64 0, .int .i64 0, .slice none 0 0, .int .i64 0, .slice none 0 0, .slice none 0 0, .slice none 0 0] : Array Value) 44)).setRow w10.heap.size cs10) := by
    obtain ⟨ad, cap, e, h1, h2⟩ := H4.row
    rw [show Value.slice a1 4 c1 = .slice ad (exB.take 4).length cap from e]
    exact run_text h1 h2 Try.underlying49 Try.underlying5 Try.underlying9
  clear H4 hsz hone hb hm HW10 HU9 HB9 HR39 HR79 HBe9
  go_wp2_with (refine wpList_store_row rfl 44 _ _ rfl w10.heap.size rfl cs10 rfl (#[.int .i64 0, .int .i64 0, .int .i64 0, .int .i64 0, .int .i64 0, .int .i64 0, .int .i64 0, .int .i64 0, .int .i64 0, .int .i64 0, .int .i64 0, .int .i64 0, .int .i64 0, .int .i64 0, .int .i64 0, .int .i64 0, .string ⟨#[]⟩, .string ⟨#[]⟩, .int .i64 0, .int .i64 0, .int .i64 0, .int .i64 0, .slice none 0 0, .int .i64 0, .slice none 0 0, .slice none 0 0, .slice none 0 0] : Array Value) 44 HA10.out HI10.out HZ10.out HO10.out ?_)
  go_ret
  exact ⟨rfl, HBF.out⟩
end Go.Proofs.Ytllcmapgigfgoaa
namespace Go.Proofs.Ytllcmapgigfgoaa
open Go.RowKit
set_option linter.unusedSimpArgs false
set_option linter.unusedVariables false

theorem own8_setC {w : World} {base g n cap : Nat} {xs : List Int} (h : Own8 w base (.slice (some ⟨g, 0, none⟩) n cap) xs) (k : Nat) (hk : k < xs.length) (x : Int) :
    Own8 (w.setCell ⟨g, k, none⟩ (.int .u8 x)) base (.slice (some ⟨g, 0, none⟩) n cap) (xs.set k x) := by
  obtain ⟨h1, h | ⟨g', cap', cur, e, hg, hh, hn, hmx, hs, hx⟩⟩ := h
  · cases h.1
  simp only [Value.slice.injEq, Option.some.injEq, Addr.mk.injEq] at e
  obtain ⟨⟨rfl, _, _⟩, rfl, rfl⟩ := e
  refine ⟨by simp, .inr ⟨g, cap, cur.setIfInBounds k (.int .u8 x), by simp, hg, ?_, by simpa using hn, hmx, by simpa using hs, ?_⟩⟩
  · have hgl : g < w.heap.size := (Array.getElem?_eq_some_iff.1 hh).1
    have hh2 : w.heap[g] = .cells cur 5 (0, 0) := by rw [Array.getElem?_eq_getElem hgl] at hh; exact Option.some.inj hh
    simp [World.setCell, hh, hgl, Array.getElem_modify, hh2]
  · rw [Array.toList_setIfInBounds, List.length_set, List.take_set, hx]
    simp [u8v, List.map_set]
theorem own8_blockC {w : World} {base : Nat} {v : Value} {xs : List Int} (h : Own8 w base v xs) (hk : 0 < xs.length) : ∃ g cap, v = .slice (some ⟨g, 0, none⟩) xs.length cap ∧ base ≤ g ∧ g < w.heap.size := by
  rcases h.2 with ⟨rfl, h0⟩ | ⟨g, cap, cur, e, hg, hh, _⟩
  · omega
  · exact ⟨g, cap, e, hg, (Array.getElem?_eq_some_iff.1 hh).1⟩
theorem own8_thawC {w : World} {base g n cap k : Nat} {xs : List Int} (h : Own8 w base (.slice (some ⟨g, 0, none⟩) n cap) xs) : w.frozen? ⟨g, k, none⟩ = false := by
  obtain ⟨h1, h | ⟨g', cap', cur, e, hg, hh, hn, hmx, hs, hx⟩⟩ := h
  · cases h.1
  simp only [Value.slice.injEq, Option.some.injEq, Addr.mk.injEq] at e
  obtain ⟨⟨rfl, _, _⟩, rfl, rfl⟩ := e
  simp [World.frozen?, hh]
theorem own8_emptyC (w : World) (base : Nat) (h : base ≤ w.heap.size) : Own8 (w.alloc (.cells #[] 5)) base (.slice (some ⟨w.heap.size, 0, none⟩) 0 0) [] := by
  refine ⟨rfl, .inr ⟨w.heap.size, 0, #[], rfl, h, heap_alloc_new w _, Nat.le_refl _, by simp, rfl, rfl⟩⟩
theorem u8_wfC {x : Int} (h : (Lit.int .u8 x).wf = true) : 0 ≤ x ∧ x ≤ 255 := by
  simp [Lit.wf, IntKind.min, IntKind.max, IntKind.bits, IntKind.signed] at h
  omega
set_option maxRecDepth 100000 in
set_option maxHeartbeats 8000000 in
theorem turned_law (v : Value) (x : Msg7) (at1 by1 : Int) (w : World) (h : MsgIs w v x) (ha : (Lit.int .i64 at1).wf = true) (hy : (Lit.int .u8 by1).wf = true) :
    Calls Try.prog 6 #[v, .int .i64 at1, .int .u8 by1] w (TruP w) := by
  have hy := u8_wfC hy
  clear ha
  have HM := Lib.hid h
  obtain ⟨cs, rfl, hs⟩ := h
  have HI : Hid ((Try.prog.info? 44).map (·.size) = some cs.size) := Lib.hid (by rw [ms_size hs]; kernel_rfl)
  have HX := Lib.hid (bka_new w 44 cs)
  have HB0 : Hid (Below w.heap.size w (w.alloc (.cells cs 44))) := Lib.hid ((Below.refl _ _).alloc (Nat.le_refl _) _)
  have HS0 : Hid ((w.alloc (.cells cs 44)).heap.size = w.heap.size + 1) := Lib.hid (by simp)
  clear hs
  go_enter Try.func6, Try.ntmps6
  go_wp2_with fail
  refine (works_any _).mono ?_
  rintro e w1 ⟨rfl, hb⟩
  have HX1 := Lib.hid ((hb.block _ (by rw [HS0.out]; omega)).trans HX.out)
  have HB1 := Lib.hid (HB0.out.trans (hb.mono HB0.out.size))
  have HS1 : Hid (w.heap.size + 1 ≤ w1.heap.size) := Lib.hid (by have := hb.size; have := HS0.out; omega)
  clear hb HX HB0 HS0
  go_wp2_with (refine wpList_load_row rfl _ _ rfl (w.heap.size) rfl 44 cs (0, 0) _ HX1.out Try.underlying44 rfl HI.out ?_)
  refine (few_any _ x w1 (HM.out.on HB1.out)).mono ?_
  rintro e w2 ⟨R, he, hF, hb⟩
  rw [he.out]
  clear he
  have HF := Lib.hid hF
  have HX2 := Lib.hid ((hb.block _ (by have := HS1.out; omega)).trans HX1.out)
  have HB2 := Lib.hid (HB1.out.trans (hb.mono HB1.out.size))
  have HS2 : Hid (w.heap.size + 1 ≤ w2.heap.size) := Lib.hid (by have := hb.size; have := HS1.out; omega)
  clear hF hb HX1 HB1 HS1
  cases R with
  | false =>
    go_wp2_with fail
    go_ret
    exact ⟨rfl, HB2.out⟩
  | true =>
    by_cases q1 : by1 = 0
    · subst q1
      go_wp2_with fail
      go_ret
      exact ⟨rfl, HB2.out⟩
    have t1 : (by1 == 0) = false := by simpa using q1
    by_cases q2 : at1 < 0
    · have t2 : decide (at1 < 0) = true := decide_eq_true q2
      go_wp2_with fail
      go_ret
      exact ⟨rfl, HB2.out⟩
    have t2 : decide (at1 < 0) = false := decide_eq_false q2
    obtain ⟨k, rfl⟩ := Int.eq_ofNat_of_zero_le (show 0 ≤ at1 by omega)
    have HN := Lib.hid q1
    have HYr := Lib.hid hy
    clear q1 q2 hy
    go_wp2_with (refine wpList_load_row rfl _ _ rfl (w.heap.size) rfl 44 cs (0, 0) _ HX2.out Try.underlying44 rfl HI.out ?_)
    refine (frame_any _ x w2 (HM.out.on HB2.out)).mono ?_
    rintro e w3 hP
    have HP := Lib.hid hP
    clear hP
    rcases HP.out with ⟨q, hl, u, he, h1, hb⟩ | ⟨q, hl, he, hb⟩ | ⟨q, he, hb⟩
    rotate_left
    · rw [he.out]
      clear he
      have HB3 := Lib.hid (HB2.out.trans (hb.mono HB2.out.size))
      clear HP q hl hb
      go_wp2_with fail
      go_ret
      exact ⟨rfl, HB3.out⟩
    · rw [he.out]
      clear he
      have HB3 := Lib.hid (HB2.out.trans (hb.mono HB2.out.size))
      clear HP q hb
      go_wp2_with fail
      go_ret
      exact ⟨rfl, HB3.out⟩
    rw [he.out]
    clear he
    obtain ⟨a3, c3, hv, _⟩ := h1.row
    rw [frm_length] at hv
    subst hv
    have HB3 := Lib.hid (HB2.out.trans (hb.mono HB2.out.size))
    have hr := eF_byte q
    clear HP q hb HF HX2
    generalize eF (msC.fs x) = xs at *
    obtain ⟨L, hL⟩ : ∃ L, xs.length + 8 = L := ⟨_, rfl⟩
    rw [hL] at h1 ⊢
    have HT := Lib.hid h1
    have hL9 : (L : Int) ≤ 9223372036854775807 := by omega
    clear h1
    by_cases q3 : L ≤ k
    · have t3 : decide ((L : Int) ≤ (k : Int)) = true := decide_eq_true (by omega)
      have t4 : (L : Int) ≤ (k : Int) := by omega
      have t5 : decide (L ≤ k) = true := decide_eq_true q3
      clear hr hl hL
      go_wp2_with fail
      go_ret
      exact ⟨rfl, HB3.out⟩
    have t3 : decide ((L : Int) ≤ (k : Int)) = false := decide_eq_false (by omega)
    have t5 : decide (L ≤ k) = false := decide_eq_false q3
    have hfl : (frm xs).length = L := by rw [frm_length, hL]
    have hrf := frm_range hr (by omega)
    have hyr := getD_range hrf k
    obtain ⟨y, hy1⟩ : ∃ y, (frm xs).getD k 0 = y := ⟨_, rfl⟩
    rw [hy1] at hyr
    obtain ⟨z, hz⟩ : ∃ z, bits BinOp.xor IntKind.u8 y by1 = z := ⟨_, rfl⟩
    have hx2 := Pc.xor_turned hyr HYr.out hz
    have hx3 : 0 ≤ z ∧ z ≤ 255 := ⟨hx2.1, hx2.2.1⟩
    have htk := Pc.frame_turned xs k z hr hl (by omega) hx3 (fun q => HN.out (hx2.2.2.1 (by rw [q, hy1])))
    have hsr : BytL ((frm xs).set k z) := by
      intro z' hz'
      rcases List.mem_or_eq_of_mem_set hz' with hz' | hz'
      · exact hrf z' hz'
      · rw [hz']; exact hx3
    have hsl : ((frm xs).set k z).length = L := by rw [List.length_set, hfl]
    have HTK := Lib.hid htk
    have HSR := Lib.hid hsr
    have HSL := Lib.hid hsl
    have HFL := Lib.hid hfl
    have HY := Lib.hid hy1
    have HZ := Lib.hid hz
    have HLm : Hid (L ≤ 16777223) := Lib.hid (by omega)
    have hkL : k < L := by omega
    have HKL := Lib.hid hkL
    clear htk hsr hsl hx2 hx3 hrf hfl hy1 hz hr hl hL hyr q3
    have hz3 := HB3.out.size
    go_wp2_with (refine wpList_app (o := ⟨some 44, _, _, _, _, _⟩) rfl _ _ rfl w3.heap.size _ [] rfl (own8_emptyC w3 _ (Nat.le_refl _)) _ (frm xs) rfl (HT.out.below ((Below.refl _ _).alloc (Nat.le_refl _) _)) (by rw [HFL.out]; have := HLm.out; simp; omega) (by simp) ?_)
    intro v5 w5 ho5 hb5 hz5
    have ho5' : Own8 w5 w3.heap.size v5 (frm xs) := ho5
    obtain ⟨g5, c5, hv5, hg5, hg5'⟩ := own8_blockC ho5' (by rw [HFL.out]; omega)
    rw [HFL.out] at hv5
    subst hv5
    have hbt5 := ho5'.bt (by rw [HFL.out]; have := HLm.out; omega)
    obtain ⟨aa, cc, ee, hr5, _⟩ := hbt5.row
    simp only [Value.slice.injEq] at ee
    obtain ⟨rfl, hq5, rfl⟩ := ee
    clear hq5
    obtain ⟨gg, off, e1, _, hcell⟩ := bt_cell hr5 (k := k) (by rw [HFL.out]; omega)
    simp only [Option.some.injEq, Addr.mk.injEq] at e1
    obtain ⟨rfl, rfl, _⟩ := e1
    rw [HY.out, Nat.zero_add] at hcell
    have hcellk : w5.cell? ⟨g5, k, none⟩ = some (.int .u8 y) := hcell
    have hthaw := own8_thawC (k := k) ho5'
    have hset := own8_setC ho5' k (by rw [HFL.out]; omega) z
    have HO := Lib.hid (hset.bt (by rw [HSL.out]; have := HLm.out; omega))
    rw [HSL.out.symm] at HO
    have hb5' : Below w3.heap.size w3 (w5.setCell ⟨g5, k, none⟩ (.int .u8 z)) := (((Below.refl _ w3).alloc (Nat.le_refl _) _).trans hb5).setCell (p := ⟨g5, k, none⟩) hg5 _
    have HB5 : Hid (Below w.heap.size w (w5.setCell ⟨g5, k, none⟩ (.int .u8 z))) := Lib.hid (HB3.out.trans (hb5'.mono hz3))
    have hk' : (k : Int) < (L : Int) := by omega
    have hk0 : (0 : Int) ≤ (k : Int) := by omega
    clear ho5 hb5 hz5 ho5' hbt5 hr5 hcell hset hb5' HB3 HT hz3
    go_wp2_with fail
    rw [HZ.out]
    refine (offrame_any _ ((frm xs).set k z) _ (by first | exact HO.out | (rw [HSL.out] at HO; exact HO.out)) HSR.out (by rw [HSL.out]; have := HLm.out; omega)).mono ?_
    rintro e w6 ⟨cs6, he, hsz, hone, hb, _⟩
    rw [he.out]
    clear he
    obtain ⟨er, her⟩ : ∃ er, ofE ((frm xs).set k z) = er := ⟨_, rfl⟩
    rw [her]
    have hne := HTK.out
    rw [her] at hne
    have t6 : (er == 0) = false := by simpa using hne
    have t7 : (er != 0) = true := by simpa using hne
    have HI6 : Hid ((Try.prog.info? 44).map (·.size) = some cs6.size) := Lib.hid (by rw [hsz]; kernel_rfl)
    have HZ6 : Hid (((#[.int .i64 0, .int .i64 0, .int .i64 0, .int .i64 0, .int .i64 0, .int .i64 0, .int .i64 0, .int .i64 0, .int .i64 0, .int .i64 0, .int .i64 0, .int .i64 0, .int .i64 0, .int .i64 0, .int .i64 0, .int .i64 0, .string ⟨#[]⟩, .string ⟨#[]⟩, .int .i64 0, .int .i64 0, .int .i64 0, .int .i64 0, .slice none 0 0, .int .i64 0, .slice none 0 0, .slice none 0 0, .slice none 0 0] : Array Value)).size = cs6.size) := Lib.hid (by rw [hsz]; rfl)
    have HO6 := Lib.hid hone
    have HA6 := Lib.hid (bka_new w6 44 (#[.int .i64 0, .int .i64 0, .int .i64 0, .int .i64 0, .int .i64 0, .int .i64 0, .int .i64 0, .int .i64 0, .int .i64 0, .int .i64 0, .int .i64 0, .int .i64 0, .int .i64 0, .int .i64 0, .int .i64 0, .int .i64 0, .string ⟨#[]⟩, .string ⟨#[]⟩, .int .i64 0, .int .i64 0, .int .i64 0, .int .i64 0, .slice none 0 0, .int .i64 0, .slice none 0 0, .slice none 0 0, .slice none 0 0] : Array Value))
    have HB6 := Lib.hid (HB5.out.trans ((hb.trans ((box_below w6 44 (#[.int .i64 0, .int .i64 0, .int .i64 0, .int .i64 0, .int .i64 0, .int .i64 0, .int .i64 0, .int .i64 0, .int .i64 0, .int .i64 0, .int .i64 0, .int .i64 0, .int .i64 0, .int .i64 0, .int .i64 0, .int .i64 0, .string ⟨#[]⟩, .string ⟨#[]⟩, .int .i64 0, .int .i64 0, .int .i64 0, .int .i64 0, .slice none 0 0, .int .i64 0, .slice none 0 0, .slice none 0 0, .slice none 0 0] : Array Value) cs6).mono hb.size)).mono HB5.out.size))
    clear hsz hone hb her hne HB5 HO
    go_wp2_with (refine wpList_store_row rfl 44 _ _ rfl w6.heap.size rfl cs6 rfl (#[.int .i64 0, .int .i64 0, .int .i64 0, .int .i64 0, .int .i64 0, .int .i64 0, .int .i64 0, .int .i64 0, .int .i64 0, .int .i64 0, .int .i64 0, .int .i64 0, .int .i64 0, .int .i64 0, .int .i64 0, .int .i64 0, .string ⟨#[]⟩, .string ⟨#[]⟩, .int .i64 0, .int .i64 0, .int .i64 0, .int .i64 0, .slice none 0 0, .int .i64 0, .slice none 0 0, .slice none 0 0, .slice none 0 0] : Array Value) 44 HA6.out HI6.out HZ6.out HO6.out ?_)
    go_ret
    exact ⟨rfl, HB6.out⟩
end Go.Proofs.Ytllcmapgigfgoaa
namespace Go.Proofs.Ytllcmapgigfgoaa
open Go.RowKit
set_option linter.unusedSimpArgs false
set_option linter.unusedVariables false

section
variable {ops : Array Oper} {o : Oper} {a : Act} {w : World} {K : Act → World → Prop} {Q : Exit → Act → World → Prop}
theorem step_loadC (hw : Region.wanted o (yielded ops a.tmps) = true) (ty : TypeId) (x : Operand) (ho : o.op = .load ty x) (g : Nat) (hx : a.eval x = .pointer (some ⟨g, 0, none⟩)) (t : TypeId) (cs : Array Value) (fr : Nat × Nat) (d : Array Field) (hg : w.heap[g]? = some (.cells cs t fr))
    (hu : Try.prog.underlying ty = some (.struct d)) (hi : (Try.prog.info? ty).map (·.size) = some cs.size)
    (h : K (a.put o.dst (.agg cs)) w) : if Region.wanted o (yielded ops a.tmps) = true then Oper.wp Try.prog o a w K Q else K (a.put o.dst undef) w := by
  rw [if_pos hw]
  exact wp_load_row ty x ho g hx t cs fr (.struct d) hg hu rfl hi h
end
theorem txt_eqC {xs ys : List Int} (hx : ∀ x ∈ xs, 0 ≤ x ∧ x ≤ 255) (hy : ∀ x ∈ ys, 0 ≤ x ∧ x ≤ 255) : ((txt xs).toList == (txt ys).toList) = decide (xs = ys) := by
  rw [toList_eq_iff, byt_txt hx, byt_txt hy]
theorem txM_byt {l : List Fd} (h : Oks l) : byt (txM l) = 61 :: eF l := by
  unfold txM
  rw [if_pos h, byt_append, byt_txt (eF_byte h)]
  rfl
theorem txM_eq {l k : List Fd} (h : Oks l) (hk : Oks k) : ((txM l).toList == (txM k).toList) = decide (eF l = eF k) := by
  rw [toList_eq_iff, txM_byt h, txM_byt hk]
  simp
theorem frm_inj {xs ys : List Int} : frm xs = frm ys ↔ xs = ys := by
  constructor
  · intro h
    have h1 := congrArg (List.drop 8) h
    simpa [frm, f4] using h1
  · rintro rfl; rfl
/-- 'string(b)', as an equation. -/
theorem bt_str {w : World} {v : Value} {xs : List Int} (h : Bt w v xs) : (convert 49 9 v).run Try.prog w = .ok (.string (txt xs)) w := by
  obtain ⟨ad, cap, rfl, h1, h2⟩ := h.row
  exact run_text h1 h2 Try.underlying49 Try.underlying5 Try.underlying9
set_option maxRecDepth 100000 in
set_option maxHeartbeats 8000000 in
theorem apart_bad0 (v0 v1 : Value) (x0 x1 : Msg7) (w : World) (h0 : MsgIs w v0 x0) (h1 : MsgIs w v1 x1) (z0 : RchI x0.2.2.2.2.2.1 x0.2.2.2.2.2.2) (z1 : RchI x1.2.2.2.2.2.1 x1.2.2.2.2.2.2) (q0 : ¬ Oks (msC.fs x0)) (q1 : Oks (msC.fs x1)) :
    Calls Try.prog 8 #[v0, v1] w (TruP w) := by
  have HM0 := Lib.hid h0
  have HM1 := Lib.hid h1
  have HZ0 := Lib.hid z0
  have HZ1 := Lib.hid z1
  obtain ⟨cs0, rfl, hs0⟩ := h0
  obtain ⟨cs1, rfl, hs1⟩ := h1
  have HI0 : Hid ((Try.prog.info? 44).map (·.size) = some cs0.size) := Lib.hid (by rw [ms_size hs0]; kernel_rfl)
  have HI1 : Hid ((Try.prog.info? 44).map (·.size) = some cs1.size) := Lib.hid (by rw [ms_size hs1]; kernel_rfl)
  have HX0 : Hid (((w.alloc (.cells cs0 44)).alloc (.cells cs1 44)).heap[w.heap.size]? = some (.cells cs0 44 (0, 0))) := Lib.hid ((Below.heap_alloc _ _ _ (by simp)).trans (bka_new w 44 cs0))
  have HX1 : Hid (((w.alloc (.cells cs0 44)).alloc (.cells cs1 44)).heap[w.heap.size + 1]? = some (.cells cs1 44 (0, 0))) := Lib.hid (by have := bka_new (w.alloc (.cells cs0 44)) 44 cs1; rwa [World.size_alloc] at this)
  have HB : Hid (Below w.heap.size w ((w.alloc (.cells cs0 44)).alloc (.cells cs1 44))) := Lib.hid (((Below.refl _ _).alloc (Nat.le_refl _) _).alloc (by simp) _)
  have HS : Hid (w.heap.size + 2 ≤ ((w.alloc (.cells cs0 44)).alloc (.cells cs1 44)).heap.size) := Lib.hid (by simp)
  clear hs0 hs1 z0 z1
  have Q0 := Lib.hid q0
  have Q1 := Lib.hid q1
  clear q0 q1
  go_enter Try.func8, Try.ntmps8
  go_wp2_with fail
  refine (works_any _).mono ?_
  rintro e w1 ⟨rfl, hb⟩
  have HX0' := Lib.hid ((hb.block _ (by have := HS.out; omega)).trans HX0.out)
  have HX1' := Lib.hid ((hb.block _ (by have := HS.out; omega)).trans HX1.out)
  have HB' := Lib.hid (HB.out.trans (hb.mono HB.out.size))
  have HS' : Hid (w.heap.size + 2 ≤ _) := Lib.hid (Nat.le_trans HS.out hb.size)
  clear hb HX0 HX1 HB HS 
  have HX0 := HX0'
  have HX1 := HX1'
  have HB := HB'
  have HS := HS'
  clear HX0' HX1' HB' HS' 
  go_wp2_with (first | refine wpList_load_rowG rfl _ _ rfl (w.heap.size) rfl 44 cs0 (0, 0) _ HX0.out Try.underlying44 rfl HI0.out ?_ | refine wpList_load_rowG rfl _ _ rfl (w.heap.size + 1) rfl 44 cs1 (0, 0) _ HX1.out Try.underlying44 rfl HI1.out ?_)
  refine (few_any _ x0 _ (HM0.out.on HB.out)).mono ?_
  rintro e wf0 ⟨R0, he, hF, hb⟩
  rw [he.out]
  clear he
  have HF0 := Lib.hid hF
  clear hF
  have HX0' := Lib.hid ((hb.block _ (by have := HS.out; omega)).trans HX0.out)
  have HX1' := Lib.hid ((hb.block _ (by have := HS.out; omega)).trans HX1.out)
  have HB' := Lib.hid (HB.out.trans (hb.mono HB.out.size))
  have HS' : Hid (w.heap.size + 2 ≤ _) := Lib.hid (Nat.le_trans HS.out hb.size)
  clear hb HX0 HX1 HB HS 
  have HX0 := HX0'
  have HX1 := HX1'
  have HB := HB'
  have HS := HS'
  clear HX0' HX1' HB' HS' 
  cases R0 with
  | false =>
    go_wp2_with fail
    go_ret
    exact ⟨rfl, HB.out⟩
  | true =>
  go_wp2_with (first | refine wpList_load_rowG rfl _ _ rfl (w.heap.size) rfl 44 cs0 (0, 0) _ HX0.out Try.underlying44 rfl HI0.out ?_ | refine wpList_load_rowG rfl _ _ rfl (w.heap.size + 1) rfl 44 cs1 (0, 0) _ HX1.out Try.underlying44 rfl HI1.out ?_)
  refine (few_any _ x1 _ (HM1.out.on HB.out)).mono ?_
  rintro e wf1 ⟨R1, he, hF, hb⟩
  rw [he.out]
  clear he
  have HF1 := Lib.hid hF
  clear hF
  have HX0' := Lib.hid ((hb.block _ (by have := HS.out; omega)).trans HX0.out)
  have HX1' := Lib.hid ((hb.block _ (by have := HS.out; omega)).trans HX1.out)
  have HB' := Lib.hid (HB.out.trans (hb.mono HB.out.size))
  have HS' : Hid (w.heap.size + 2 ≤ _) := Lib.hid (Nat.le_trans HS.out hb.size)
  clear hb HX0 HX1 HB HS 
  have HX0 := HX0'
  have HX1 := HX1'
  have HB := HB'
  have HS := HS'
  clear HX0' HX1' HB' HS' 
  cases R1 with
  | false =>
    go_wp2_with fail
    go_ret
    exact ⟨rfl, HB.out⟩
  | true =>
  go_wp2_with (first | refine wpList_load_rowG rfl _ _ rfl (w.heap.size) rfl 44 cs0 (0, 0) _ HX0.out Try.underlying44 rfl HI0.out ?_ | refine wpList_load_rowG rfl _ _ rfl (w.heap.size + 1) rfl 44 cs1 (0, 0) _ HX1.out Try.underlying44 rfl HI1.out ?_)
  refine (msg_any _ x0 _ (HM0.out.on HB.out)).mono ?_
  rintro e wm0 hP
  obtain ⟨_, he, hb⟩ := hP.resolve_left (fun h => Q0.out h.1)
  rw [he.out]
  clear he hP
  have HX0' := Lib.hid ((hb.block _ (by have := HS.out; omega)).trans HX0.out)
  have HX1' := Lib.hid ((hb.block _ (by have := HS.out; omega)).trans HX1.out)
  have HB' := Lib.hid (HB.out.trans (hb.mono HB.out.size))
  have HS' : Hid (w.heap.size + 2 ≤ _) := Lib.hid (Nat.le_trans HS.out hb.size)
  clear hb HX0 HX1 HB HS 
  have HX0 := HX0'
  have HX1 := HX1'
  have HB := HB'
  have HS := HS'
  clear HX0' HX1' HB' HS' 
  go_wp2_with (first | refine wpList_load_rowG rfl _ _ rfl (w.heap.size) rfl 44 cs0 (0, 0) _ HX0.out Try.underlying44 rfl HI0.out ?_ | refine wpList_load_rowG rfl _ _ rfl (w.heap.size + 1) rfl 44 cs1 (0, 0) _ HX1.out Try.underlying44 rfl HI1.out ?_)
  refine (msg_any _ x1 _ (HM1.out.on HB.out)).mono ?_
  rintro e wm1 hP
  obtain ⟨_, u1, he, ho, hb⟩ := hP.resolve_right (fun h => h.1 Q1.out)
  rw [he.out]
  clear he hP
  obtain ⟨am1, cm1, hv⟩ := ho.slice
  subst hv
  have HU1 := Lib.hid (ho.bt (by have := few_len Q1.out (HF1.out (by first | rfl | trivial)); omega))
  clear ho
  have HX0' := Lib.hid ((hb.block _ (by have := HS.out; omega)).trans HX0.out)
  have HX1' := Lib.hid ((hb.block _ (by have := HS.out; omega)).trans HX1.out)
  have HB' := Lib.hid (HB.out.trans (hb.mono HB.out.size))
  have HS' : Hid (w.heap.size + 2 ≤ _) := Lib.hid (Nat.le_trans HS.out hb.size)
  clear hb HX0 HX1 HB HS 
  have HX0 := HX0'
  have HX1 := HX1'
  have HB := HB'
  have HS := HS'
  clear HX0' HX1' HB' HS' 
  go_wp2_with (first | refine wpList_load_rowG rfl _ _ rfl (w.heap.size) rfl 44 cs0 (0, 0) _ HX0.out Try.underlying44 rfl HI0.out ?_ | refine wpList_load_rowG rfl _ _ rfl (w.heap.size + 1) rfl 44 cs1 (0, 0) _ HX1.out Try.underlying44 rfl HI1.out ?_)
  refine (frame_any _ x0 _ (HM0.out.on HB.out)).mono ?_
  rintro e wr0 hP
  obtain ⟨_, he, hb⟩ := (hP.resolve_left (fun h => Q0.out h.1)).resolve_left (fun h => Q0.out h.1)
  rw [he.out]
  clear he hP
  have HX0' := Lib.hid ((hb.block _ (by have := HS.out; omega)).trans HX0.out)
  have HX1' := Lib.hid ((hb.block _ (by have := HS.out; omega)).trans HX1.out)
  have HB' := Lib.hid (HB.out.trans (hb.mono HB.out.size))
  have HS' : Hid (w.heap.size + 2 ≤ _) := Lib.hid (Nat.le_trans HS.out hb.size)
  have HU1' := Lib.hid (HU1.out.below hb)
  clear hb HX0 HX1 HB HS HU1
  have HX0 := HX0'
  have HX1 := HX1'
  have HB := HB'
  have HS := HS'
  have HU1 := HU1'
  clear HX0' HX1' HB' HS' HU1'
  go_wp2_with (first | refine wpList_load_rowG rfl _ _ rfl (w.heap.size) rfl 44 cs0 (0, 0) _ HX0.out Try.underlying44 rfl HI0.out ?_ | refine wpList_load_rowG rfl _ _ rfl (w.heap.size + 1) rfl 44 cs1 (0, 0) _ HX1.out Try.underlying44 rfl HI1.out ?_)
  refine (frame_any _ x1 _ (HM1.out.on HB.out)).mono ?_
  rintro e wr1 hP
  obtain ⟨_, _, t1, he, ho, hb⟩ := hP.resolve_right (fun h => h.elim (fun k => k.2.1 (by have := few_len Q1.out (HF1.out (by first | rfl | trivial)); omega)) (fun k => k.1 Q1.out))
  rw [he.out]
  clear he hP
  obtain ⟨ar1, cr1, hv, _⟩ := ho.row
  subst hv
  have HT1 := Lib.hid ho
  clear ho
  have HX0' := Lib.hid ((hb.block _ (by have := HS.out; omega)).trans HX0.out)
  have HX1' := Lib.hid ((hb.block _ (by have := HS.out; omega)).trans HX1.out)
  have HB' := Lib.hid (HB.out.trans (hb.mono HB.out.size))
  have HS' : Hid (w.heap.size + 2 ≤ _) := Lib.hid (Nat.le_trans HS.out hb.size)
  have HU1' := Lib.hid (HU1.out.below hb)
  clear hb HX0 HX1 HB HS HU1
  have HX0 := HX0'
  have HX1 := HX1'
  have HB := HB'
  have HS := HS'
  have HU1 := HU1'
  clear HX0' HX1' HB' HS' HU1'
  go_wp2_with fail
  go_ret
  exact ⟨rfl, HB.out⟩
set_option maxRecDepth 100000 in
set_option maxHeartbeats 8000000 in
theorem apart_bad1 (v0 v1 : Value) (x0 x1 : Msg7) (w : World) (h0 : MsgIs w v0 x0) (h1 : MsgIs w v1 x1) (z0 : RchI x0.2.2.2.2.2.1 x0.2.2.2.2.2.2) (z1 : RchI x1.2.2.2.2.2.1 x1.2.2.2.2.2.2) (q0 : Oks (msC.fs x0)) (q1 : ¬ Oks (msC.fs x1)) :
    Calls Try.prog 8 #[v0, v1] w (TruP w) := by
  have HM0 := Lib.hid h0
  have HM1 := Lib.hid h1
  have HZ0 := Lib.hid z0
  have HZ1 := Lib.hid z1
  obtain ⟨cs0, rfl, hs0⟩ := h0
  obtain ⟨cs1, rfl, hs1⟩ := h1
  have HI0 : Hid ((Try.prog.info? 44).map (·.size) = some cs0.size) := Lib.hid (by rw [ms_size hs0]; kernel_rfl)
  have HI1 : Hid ((Try.prog.info? 44).map (·.size) = some cs1.size) := Lib.hid (by rw [ms_size hs1]; kernel_rfl)
  have HX0 : Hid (((w.alloc (.cells cs0 44)).alloc (.cells cs1 44)).heap[w.heap.size]? = some (.cells cs0 44 (0, 0))) := Lib.hid ((Below.heap_alloc _ _ _ (by simp)).trans (bka_new w 44 cs0))
  have HX1 : Hid (((w.alloc (.cells cs0 44)).alloc (.cells cs1 44)).heap[w.heap.size + 1]? = some (.cells cs1 44 (0, 0))) := Lib.hid (by have := bka_new (w.alloc (.cells cs0 44)) 44 cs1; rwa [World.size_alloc] at this)
  have HB : Hid (Below w.heap.size w ((w.alloc (.cells cs0 44)).alloc (.cells cs1 44))) := Lib.hid (((Below.refl _ _).alloc (Nat.le_refl _) _).alloc (by simp) _)
  have HS : Hid (w.heap.size + 2 ≤ ((w.alloc (.cells cs0 44)).alloc (.cells cs1 44)).heap.size) := Lib.hid (by simp)
  clear hs0 hs1 z0 z1
  have Q0 := Lib.hid q0
  have Q1 := Lib.hid q1
  clear q0 q1
  go_enter Try.func8, Try.ntmps8
  go_wp2_with fail
  refine (works_any _).mono ?_
  rintro e w1 ⟨rfl, hb⟩
  have HX0' := Lib.hid ((hb.block _ (by have := HS.out; omega)).trans HX0.out)
  have HX1' := Lib.hid ((hb.block _ (by have := HS.out; omega)).trans HX1.out)
  have HB' := Lib.hid (HB.out.trans (hb.mono HB.out.size))
  have HS' : Hid (w.heap.size + 2 ≤ _) := Lib.hid (Nat.le_trans HS.out hb.size)
  clear hb HX0 HX1 HB HS 
  have HX0 := HX0'
  have HX1 := HX1'
  have HB := HB'
  have HS := HS'
  clear HX0' HX1' HB' HS' 
  go_wp2_with (first | refine wpList_load_rowG rfl _ _ rfl (w.heap.size) rfl 44 cs0 (0, 0) _ HX0.out Try.underlying44 rfl HI0.out ?_ | refine wpList_load_rowG rfl _ _ rfl (w.heap.size + 1) rfl 44 cs1 (0, 0) _ HX1.out Try.underlying44 rfl HI1.out ?_)
  refine (few_any _ x0 _ (HM0.out.on HB.out)).mono ?_
  rintro e wf0 ⟨R0, he, hF, hb⟩
  rw [he.out]
  clear he
  have HF0 := Lib.hid hF
  clear hF
  have HX0' := Lib.hid ((hb.block _ (by have := HS.out; omega)).trans HX0.out)
  have HX1' := Lib.hid ((hb.block _ (by have := HS.out; omega)).trans HX1.out)
  have HB' := Lib.hid (HB.out.trans (hb.mono HB.out.size))
  have HS' : Hid (w.heap.size + 2 ≤ _) := Lib.hid (Nat.le_trans HS.out hb.size)
  clear hb HX0 HX1 HB HS 
  have HX0 := HX0'
  have HX1 := HX1'
  have HB := HB'
  have HS := HS'
  clear HX0' HX1' HB' HS' 
  cases R0 with
  | false =>
    go_wp2_with fail
    go_ret
    exact ⟨rfl, HB.out⟩
  | true =>
  go_wp2_with (first | refine wpList_load_rowG rfl _ _ rfl (w.heap.size) rfl 44 cs0 (0, 0) _ HX0.out Try.underlying44 rfl HI0.out ?_ | refine wpList_load_rowG rfl _ _ rfl (w.heap.size + 1) rfl 44 cs1 (0, 0) _ HX1.out Try.underlying44 rfl HI1.out ?_)
  refine (few_any _ x1 _ (HM1.out.on HB.out)).mono ?_
  rintro e wf1 ⟨R1, he, hF, hb⟩
  rw [he.out]
  clear he
  have HF1 := Lib.hid hF
  clear hF
  have HX0' := Lib.hid ((hb.block _ (by have := HS.out; omega)).trans HX0.out)
  have HX1' := Lib.hid ((hb.block _ (by have := HS.out; omega)).trans HX1.out)
  have HB' := Lib.hid (HB.out.trans (hb.mono HB.out.size))
  have HS' : Hid (w.heap.size + 2 ≤ _) := Lib.hid (Nat.le_trans HS.out hb.size)
  clear hb HX0 HX1 HB HS 
  have HX0 := HX0'
  have HX1 := HX1'
  have HB := HB'
  have HS := HS'
  clear HX0' HX1' HB' HS' 
  cases R1 with
  | false =>
    go_wp2_with fail
    go_ret
    exact ⟨rfl, HB.out⟩
  | true =>
  go_wp2_with (first | refine wpList_load_rowG rfl _ _ rfl (w.heap.size) rfl 44 cs0 (0, 0) _ HX0.out Try.underlying44 rfl HI0.out ?_ | refine wpList_load_rowG rfl _ _ rfl (w.heap.size + 1) rfl 44 cs1 (0, 0) _ HX1.out Try.underlying44 rfl HI1.out ?_)
  refine (msg_any _ x0 _ (HM0.out.on HB.out)).mono ?_
  rintro e wm0 hP
  obtain ⟨_, u0, he, ho, hb⟩ := hP.resolve_right (fun h => h.1 Q0.out)
  rw [he.out]
  clear he hP
  obtain ⟨am0, cm0, hv⟩ := ho.slice
  subst hv
  have HU0 := Lib.hid (ho.bt (by have := few_len Q0.out (HF0.out (by first | rfl | trivial)); omega))
  clear ho
  have HX0' := Lib.hid ((hb.block _ (by have := HS.out; omega)).trans HX0.out)
  have HX1' := Lib.hid ((hb.block _ (by have := HS.out; omega)).trans HX1.out)
  have HB' := Lib.hid (HB.out.trans (hb.mono HB.out.size))
  have HS' : Hid (w.heap.size + 2 ≤ _) := Lib.hid (Nat.le_trans HS.out hb.size)
  clear hb HX0 HX1 HB HS 
  have HX0 := HX0'
  have HX1 := HX1'
  have HB := HB'
  have HS := HS'
  clear HX0' HX1' HB' HS' 
  go_wp2_with (first | refine wpList_load_rowG rfl _ _ rfl (w.heap.size) rfl 44 cs0 (0, 0) _ HX0.out Try.underlying44 rfl HI0.out ?_ | refine wpList_load_rowG rfl _ _ rfl (w.heap.size + 1) rfl 44 cs1 (0, 0) _ HX1.out Try.underlying44 rfl HI1.out ?_)
  refine (msg_any _ x1 _ (HM1.out.on HB.out)).mono ?_
  rintro e wm1 hP
  obtain ⟨_, he, hb⟩ := hP.resolve_left (fun h => Q1.out h.1)
  rw [he.out]
  clear he hP
  have HX0' := Lib.hid ((hb.block _ (by have := HS.out; omega)).trans HX0.out)
  have HX1' := Lib.hid ((hb.block _ (by have := HS.out; omega)).trans HX1.out)
  have HB' := Lib.hid (HB.out.trans (hb.mono HB.out.size))
  have HS' : Hid (w.heap.size + 2 ≤ _) := Lib.hid (Nat.le_trans HS.out hb.size)
  have HU0' := Lib.hid (HU0.out.below hb)
  clear hb HX0 HX1 HB HS HU0
  have HX0 := HX0'
  have HX1 := HX1'
  have HB := HB'
  have HS := HS'
  have HU0 := HU0'
  clear HX0' HX1' HB' HS' HU0'
  go_wp2_with (first | refine wpList_load_rowG rfl _ _ rfl (w.heap.size) rfl 44 cs0 (0, 0) _ HX0.out Try.underlying44 rfl HI0.out ?_ | refine wpList_load_rowG rfl _ _ rfl (w.heap.size + 1) rfl 44 cs1 (0, 0) _ HX1.out Try.underlying44 rfl HI1.out ?_)
  refine (frame_any _ x0 _ (HM0.out.on HB.out)).mono ?_
  rintro e wr0 hP
  obtain ⟨_, _, t0, he, ho, hb⟩ := hP.resolve_right (fun h => h.elim (fun k => k.2.1 (by have := few_len Q0.out (HF0.out (by first | rfl | trivial)); omega)) (fun k => k.1 Q0.out))
  rw [he.out]
  clear he hP
  obtain ⟨ar0, cr0, hv, _⟩ := ho.row
  subst hv
  have HT0 := Lib.hid ho
  clear ho
  have HX0' := Lib.hid ((hb.block _ (by have := HS.out; omega)).trans HX0.out)
  have HX1' := Lib.hid ((hb.block _ (by have := HS.out; omega)).trans HX1.out)
  have HB' := Lib.hid (HB.out.trans (hb.mono HB.out.size))
  have HS' : Hid (w.heap.size + 2 ≤ _) := Lib.hid (Nat.le_trans HS.out hb.size)
  have HU0' := Lib.hid (HU0.out.below hb)
  clear hb HX0 HX1 HB HS HU0
  have HX0 := HX0'
  have HX1 := HX1'
  have HB := HB'
  have HS := HS'
  have HU0 := HU0'
  clear HX0' HX1' HB' HS' HU0'
  go_wp2_with (first | refine wpList_load_rowG rfl _ _ rfl (w.heap.size) rfl 44 cs0 (0, 0) _ HX0.out Try.underlying44 rfl HI0.out ?_ | refine wpList_load_rowG rfl _ _ rfl (w.heap.size + 1) rfl 44 cs1 (0, 0) _ HX1.out Try.underlying44 rfl HI1.out ?_)
  refine (frame_any _ x1 _ (HM1.out.on HB.out)).mono ?_
  rintro e wr1 hP
  obtain ⟨_, he, hb⟩ := (hP.resolve_left (fun h => Q1.out h.1)).resolve_left (fun h => Q1.out h.1)
  rw [he.out]
  clear he hP
  have HX0' := Lib.hid ((hb.block _ (by have := HS.out; omega)).trans HX0.out)
  have HX1' := Lib.hid ((hb.block _ (by have := HS.out; omega)).trans HX1.out)
  have HB' := Lib.hid (HB.out.trans (hb.mono HB.out.size))
  have HS' : Hid (w.heap.size + 2 ≤ _) := Lib.hid (Nat.le_trans HS.out hb.size)
  have HU0' := Lib.hid (HU0.out.below hb)
  have HT0' := Lib.hid (HT0.out.below hb)
  clear hb HX0 HX1 HB HS HU0 HT0
  have HX0 := HX0'
  have HX1 := HX1'
  have HB := HB'
  have HS := HS'
  have HU0 := HU0'
  have HT0 := HT0'
  clear HX0' HX1' HB' HS' HU0' HT0'
  go_wp2_with fail
  go_ret
  exact ⟨rfl, HB.out⟩
set_option maxRecDepth 100000 in
set_option maxHeartbeats 8000000 in
theorem apart_bad2 (v0 v1 : Value) (x0 x1 : Msg7) (w : World) (h0 : MsgIs w v0 x0) (h1 : MsgIs w v1 x1) (z0 : RchI x0.2.2.2.2.2.1 x0.2.2.2.2.2.2) (z1 : RchI x1.2.2.2.2.2.1 x1.2.2.2.2.2.2) (q0 : ¬ Oks (msC.fs x0)) (q1 : ¬ Oks (msC.fs x1)) :
    Calls Try.prog 8 #[v0, v1] w (TruP w) := by
  have HM0 := Lib.hid h0
  have HM1 := Lib.hid h1
  have HZ0 := Lib.hid z0
  have HZ1 := Lib.hid z1
  obtain ⟨cs0, rfl, hs0⟩ := h0
  obtain ⟨cs1, rfl, hs1⟩ := h1
  have HI0 : Hid ((Try.prog.info? 44).map (·.size) = some cs0.size) := Lib.hid (by rw [ms_size hs0]; kernel_rfl)
  have HI1 : Hid ((Try.prog.info? 44).map (·.size) = some cs1.size) := Lib.hid (by rw [ms_size hs1]; kernel_rfl)
  have HX0 : Hid (((w.alloc (.cells cs0 44)).alloc (.cells cs1 44)).heap[w.heap.size]? = some (.cells cs0 44 (0, 0))) := Lib.hid ((Below.heap_alloc _ _ _ (by simp)).trans (bka_new w 44 cs0))
  have HX1 : Hid (((w.alloc (.cells cs0 44)).alloc (.cells cs1 44)).heap[w.heap.size + 1]? = some (.cells cs1 44 (0, 0))) := Lib.hid (by have := bka_new (w.alloc (.cells cs0 44)) 44 cs1; rwa [World.size_alloc] at this)
  have HB : Hid (Below w.heap.size w ((w.alloc (.cells cs0 44)).alloc (.cells cs1 44))) := Lib.hid (((Below.refl _ _).alloc (Nat.le_refl _) _).alloc (by simp) _)
  have HS : Hid (w.heap.size + 2 ≤ ((w.alloc (.cells cs0 44)).alloc (.cells cs1 44)).heap.size) := Lib.hid (by simp)
  clear hs0 hs1 z0 z1
  have Q0 := Lib.hid q0
  have Q1 := Lib.hid q1
  clear q0 q1
  go_enter Try.func8, Try.ntmps8
  go_wp2_with fail
  refine (works_any _).mono ?_
  rintro e w1 ⟨rfl, hb⟩
  have HX0' := Lib.hid ((hb.block _ (by have := HS.out; omega)).trans HX0.out)
  have HX1' := Lib.hid ((hb.block _ (by have := HS.out; omega)).trans HX1.out)
  have HB' := Lib.hid (HB.out.trans (hb.mono HB.out.size))
  have HS' : Hid (w.heap.size + 2 ≤ _) := Lib.hid (Nat.le_trans HS.out hb.size)
  clear hb HX0 HX1 HB HS 
  have HX0 := HX0'
  have HX1 := HX1'
  have HB := HB'
  have HS := HS'
  clear HX0' HX1' HB' HS' 
  go_wp2_with (first | refine wpList_load_rowG rfl _ _ rfl (w.heap.size) rfl 44 cs0 (0, 0) _ HX0.out Try.underlying44 rfl HI0.out ?_ | refine wpList_load_rowG rfl _ _ rfl (w.heap.size + 1) rfl 44 cs1 (0, 0) _ HX1.out Try.underlying44 rfl HI1.out ?_)
  refine (few_any _ x0 _ (HM0.out.on HB.out)).mono ?_
  rintro e wf0 ⟨R0, he, hF, hb⟩
  rw [he.out]
  clear he
  have HF0 := Lib.hid hF
  clear hF
  have HX0' := Lib.hid ((hb.block _ (by have := HS.out; omega)).trans HX0.out)
  have HX1' := Lib.hid ((hb.block _ (by have := HS.out; omega)).trans HX1.out)
  have HB' := Lib.hid (HB.out.trans (hb.mono HB.out.size))
  have HS' : Hid (w.heap.size + 2 ≤ _) := Lib.hid (Nat.le_trans HS.out hb.size)
  clear hb HX0 HX1 HB HS 
  have HX0 := HX0'
  have HX1 := HX1'
  have HB := HB'
  have HS := HS'
  clear HX0' HX1' HB' HS' 
  cases R0 with
  | false =>
    go_wp2_with fail
    go_ret
    exact ⟨rfl, HB.out⟩
  | true =>
  go_wp2_with (first | refine wpList_load_rowG rfl _ _ rfl (w.heap.size) rfl 44 cs0 (0, 0) _ HX0.out Try.underlying44 rfl HI0.out ?_ | refine wpList_load_rowG rfl _ _ rfl (w.heap.size + 1) rfl 44 cs1 (0, 0) _ HX1.out Try.underlying44 rfl HI1.out ?_)
  refine (few_any _ x1 _ (HM1.out.on HB.out)).mono ?_
  rintro e wf1 ⟨R1, he, hF, hb⟩
  rw [he.out]
  clear he
  have HF1 := Lib.hid hF
  clear hF
  have HX0' := Lib.hid ((hb.block _ (by have := HS.out; omega)).trans HX0.out)
  have HX1' := Lib.hid ((hb.block _ (by have := HS.out; omega)).trans HX1.out)
  have HB' := Lib.hid (HB.out.trans (hb.mono HB.out.size))
  have HS' : Hid (w.heap.size + 2 ≤ _) := Lib.hid (Nat.le_trans HS.out hb.size)
  clear hb HX0 HX1 HB HS 
  have HX0 := HX0'
  have HX1 := HX1'
  have HB := HB'
  have HS := HS'
  clear HX0' HX1' HB' HS' 
  cases R1 with
  | false =>
    go_wp2_with fail
    go_ret
    exact ⟨rfl, HB.out⟩
  | true =>
  go_wp2_with (first | refine wpList_load_rowG rfl _ _ rfl (w.heap.size) rfl 44 cs0 (0, 0) _ HX0.out Try.underlying44 rfl HI0.out ?_ | refine wpList_load_rowG rfl _ _ rfl (w.heap.size + 1) rfl 44 cs1 (0, 0) _ HX1.out Try.underlying44 rfl HI1.out ?_)
  refine (msg_any _ x0 _ (HM0.out.on HB.out)).mono ?_
  rintro e wm0 hP
  obtain ⟨_, he, hb⟩ := hP.resolve_left (fun h => Q0.out h.1)
  rw [he.out]
  clear he hP
  have HX0' := Lib.hid ((hb.block _ (by have := HS.out; omega)).trans HX0.out)
  have HX1' := Lib.hid ((hb.block _ (by have := HS.out; omega)).trans HX1.out)
  have HB' := Lib.hid (HB.out.trans (hb.mono HB.out.size))
  have HS' : Hid (w.heap.size + 2 ≤ _) := Lib.hid (Nat.le_trans HS.out hb.size)
  clear hb HX0 HX1 HB HS 
  have HX0 := HX0'
  have HX1 := HX1'
  have HB := HB'
  have HS := HS'
  clear HX0' HX1' HB' HS' 
  go_wp2_with (first | refine wpList_load_rowG rfl _ _ rfl (w.heap.size) rfl 44 cs0 (0, 0) _ HX0.out Try.underlying44 rfl HI0.out ?_ | refine wpList_load_rowG rfl _ _ rfl (w.heap.size + 1) rfl 44 cs1 (0, 0) _ HX1.out Try.underlying44 rfl HI1.out ?_)
  refine (msg_any _ x1 _ (HM1.out.on HB.out)).mono ?_
  rintro e wm1 hP
  obtain ⟨_, he, hb⟩ := hP.resolve_left (fun h => Q1.out h.1)
  rw [he.out]
  clear he hP
  have HX0' := Lib.hid ((hb.block _ (by have := HS.out; omega)).trans HX0.out)
  have HX1' := Lib.hid ((hb.block _ (by have := HS.out; omega)).trans HX1.out)
  have HB' := Lib.hid (HB.out.trans (hb.mono HB.out.size))
  have HS' : Hid (w.heap.size + 2 ≤ _) := Lib.hid (Nat.le_trans HS.out hb.size)
  clear hb HX0 HX1 HB HS 
  have HX0 := HX0'
  have HX1 := HX1'
  have HB := HB'
  have HS := HS'
  clear HX0' HX1' HB' HS' 
  go_wp2_with (first | refine wpList_load_rowG rfl _ _ rfl (w.heap.size) rfl 44 cs0 (0, 0) _ HX0.out Try.underlying44 rfl HI0.out ?_ | refine wpList_load_rowG rfl _ _ rfl (w.heap.size + 1) rfl 44 cs1 (0, 0) _ HX1.out Try.underlying44 rfl HI1.out ?_)
  refine (frame_any _ x0 _ (HM0.out.on HB.out)).mono ?_
  rintro e wr0 hP
  obtain ⟨_, he, hb⟩ := (hP.resolve_left (fun h => Q0.out h.1)).resolve_left (fun h => Q0.out h.1)
  rw [he.out]
  clear he hP
  have HX0' := Lib.hid ((hb.block _ (by have := HS.out; omega)).trans HX0.out)
  have HX1' := Lib.hid ((hb.block _ (by have := HS.out; omega)).trans HX1.out)
  have HB' := Lib.hid (HB.out.trans (hb.mono HB.out.size))
  have HS' : Hid (w.heap.size + 2 ≤ _) := Lib.hid (Nat.le_trans HS.out hb.size)
  clear hb HX0 HX1 HB HS 
  have HX0 := HX0'
  have HX1 := HX1'
  have HB := HB'
  have HS := HS'
  clear HX0' HX1' HB' HS' 
  go_wp2_with (first | refine wpList_load_rowG rfl _ _ rfl (w.heap.size) rfl 44 cs0 (0, 0) _ HX0.out Try.underlying44 rfl HI0.out ?_ | refine wpList_load_rowG rfl _ _ rfl (w.heap.size + 1) rfl 44 cs1 (0, 0) _ HX1.out Try.underlying44 rfl HI1.out ?_)
  refine (frame_any _ x1 _ (HM1.out.on HB.out)).mono ?_
  rintro e wr1 hP
  obtain ⟨_, he, hb⟩ := (hP.resolve_left (fun h => Q1.out h.1)).resolve_left (fun h => Q1.out h.1)
  rw [he.out]
  clear he hP
  have HX0' := Lib.hid ((hb.block _ (by have := HS.out; omega)).trans HX0.out)
  have HX1' := Lib.hid ((hb.block _ (by have := HS.out; omega)).trans HX1.out)
  have HB' := Lib.hid (HB.out.trans (hb.mono HB.out.size))
  have HS' : Hid (w.heap.size + 2 ≤ _) := Lib.hid (Nat.le_trans HS.out hb.size)
  clear hb HX0 HX1 HB HS 
  have HX0 := HX0'
  have HX1 := HX1'
  have HB := HB'
  have HS := HS'
  clear HX0' HX1' HB' HS' 
  go_wp2_with fail
  go_ret
  exact ⟨rfl, HB.out⟩
set_option maxRecDepth 100000 in
set_option maxHeartbeats 8000000 in
theorem apart_good (v0 v1 : Value) (x0 x1 : Msg7) (w : World) (h0 : MsgIs w v0 x0) (h1 : MsgIs w v1 x1) (z0 : RchI x0.2.2.2.2.2.1 x0.2.2.2.2.2.2) (z1 : RchI x1.2.2.2.2.2.1 x1.2.2.2.2.2.2) (q0 : Oks (msC.fs x0)) (q1 : Oks (msC.fs x1)) :
    Calls Try.prog 8 #[v0, v1] w (TruP w) := by
  have HM0 := Lib.hid h0
  have HM1 := Lib.hid h1
  have HZ0 := Lib.hid z0
  have HZ1 := Lib.hid z1
  obtain ⟨cs0, rfl, hs0⟩ := h0
  obtain ⟨cs1, rfl, hs1⟩ := h1
  have HI0 : Hid ((Try.prog.info? 44).map (·.size) = some cs0.size) := Lib.hid (by rw [ms_size hs0]; kernel_rfl)
  have HI1 : Hid ((Try.prog.info? 44).map (·.size) = some cs1.size) := Lib.hid (by rw [ms_size hs1]; kernel_rfl)
  have HX0 : Hid (((w.alloc (.cells cs0 44)).alloc (.cells cs1 44)).heap[w.heap.size]? = some (.cells cs0 44 (0, 0))) := Lib.hid ((Below.heap_alloc _ _ _ (by simp)).trans (bka_new w 44 cs0))
  have HX1 : Hid (((w.alloc (.cells cs0 44)).alloc (.cells cs1 44)).heap[w.heap.size + 1]? = some (.cells cs1 44 (0, 0))) := Lib.hid (by have := bka_new (w.alloc (.cells cs0 44)) 44 cs1; rwa [World.size_alloc] at this)
  have HB : Hid (Below w.heap.size w ((w.alloc (.cells cs0 44)).alloc (.cells cs1 44))) := Lib.hid (((Below.refl _ _).alloc (Nat.le_refl _) _).alloc (by simp) _)
  have HS : Hid (w.heap.size + 2 ≤ ((w.alloc (.cells cs0 44)).alloc (.cells cs1 44)).heap.size) := Lib.hid (by simp)
  clear hs0 hs1 z0 z1
  have Q0 := Lib.hid q0
  have Q1 := Lib.hid q1
  clear q0 q1
  go_enter Try.func8, Try.ntmps8
  go_wp2_with fail
  refine (works_any _).mono ?_
  rintro e w1 ⟨rfl, hb⟩
  have HX0' := Lib.hid ((hb.block _ (by have := HS.out; omega)).trans HX0.out)
  have HX1' := Lib.hid ((hb.block _ (by have := HS.out; omega)).trans HX1.out)
  have HB' := Lib.hid (HB.out.trans (hb.mono HB.out.size))
  have HS' : Hid (w.heap.size + 2 ≤ _) := Lib.hid (Nat.le_trans HS.out hb.size)
  clear hb HX0 HX1 HB HS 
  have HX0 := HX0'
  have HX1 := HX1'
  have HB := HB'
  have HS := HS'
  clear HX0' HX1' HB' HS' 
  go_wp2_with (first | refine wpList_load_rowG rfl _ _ rfl (w.heap.size) rfl 44 cs0 (0, 0) _ HX0.out Try.underlying44 rfl HI0.out ?_ | refine wpList_load_rowG rfl _ _ rfl (w.heap.size + 1) rfl 44 cs1 (0, 0) _ HX1.out Try.underlying44 rfl HI1.out ?_)
  refine (few_any _ x0 _ (HM0.out.on HB.out)).mono ?_
  rintro e wf0 ⟨R0, he, hF, hb⟩
  rw [he.out]
  clear he
  have HF0 := Lib.hid hF
  clear hF
  have HX0' := Lib.hid ((hb.block _ (by have := HS.out; omega)).trans HX0.out)
  have HX1' := Lib.hid ((hb.block _ (by have := HS.out; omega)).trans HX1.out)
  have HB' := Lib.hid (HB.out.trans (hb.mono HB.out.size))
  have HS' : Hid (w.heap.size + 2 ≤ _) := Lib.hid (Nat.le_trans HS.out hb.size)
  clear hb HX0 HX1 HB HS 
  have HX0 := HX0'
  have HX1 := HX1'
  have HB := HB'
  have HS := HS'
  clear HX0' HX1' HB' HS' 
  cases R0 with
  | false =>
    go_wp2_with fail
    go_ret
    exact ⟨rfl, HB.out⟩
  | true =>
  go_wp2_with (first | refine wpList_load_rowG rfl _ _ rfl (w.heap.size) rfl 44 cs0 (0, 0) _ HX0.out Try.underlying44 rfl HI0.out ?_ | refine wpList_load_rowG rfl _ _ rfl (w.heap.size + 1) rfl 44 cs1 (0, 0) _ HX1.out Try.underlying44 rfl HI1.out ?_)
  refine (few_any _ x1 _ (HM1.out.on HB.out)).mono ?_
  rintro e wf1 ⟨R1, he, hF, hb⟩
  rw [he.out]
  clear he
  have HF1 := Lib.hid hF
  clear hF
  have HX0' := Lib.hid ((hb.block _ (by have := HS.out; omega)).trans HX0.out)
  have HX1' := Lib.hid ((hb.block _ (by have := HS.out; omega)).trans HX1.out)
  have HB' := Lib.hid (HB.out.trans (hb.mono HB.out.size))
  have HS' : Hid (w.heap.size + 2 ≤ _) := Lib.hid (Nat.le_trans HS.out hb.size)
  clear hb HX0 HX1 HB HS 
  have HX0 := HX0'
  have HX1 := HX1'
  have HB := HB'
  have HS := HS'
  clear HX0' HX1' HB' HS' 
  cases R1 with
  | false =>
    go_wp2_with fail
    go_ret
    exact ⟨rfl, HB.out⟩
  | true =>
  go_wp2_with (first | refine wpList_load_rowG rfl _ _ rfl (w.heap.size) rfl 44 cs0 (0, 0) _ HX0.out Try.underlying44 rfl HI0.out ?_ | refine wpList_load_rowG rfl _ _ rfl (w.heap.size + 1) rfl 44 cs1 (0, 0) _ HX1.out Try.underlying44 rfl HI1.out ?_)
  refine (msg_any _ x0 _ (HM0.out.on HB.out)).mono ?_
  rintro e wm0 hP
  obtain ⟨_, u0, he, ho, hb⟩ := hP.resolve_right (fun h => h.1 Q0.out)
  rw [he.out]
  clear he hP
  obtain ⟨am0, cm0, hv⟩ := ho.slice
  subst hv
  have HU0 := Lib.hid (ho.bt (by have := few_len Q0.out (HF0.out (by first | rfl | trivial)); omega))
  clear ho
  have HX0' := Lib.hid ((hb.block _ (by have := HS.out; omega)).trans HX0.out)
  have HX1' := Lib.hid ((hb.block _ (by have := HS.out; omega)).trans HX1.out)
  have HB' := Lib.hid (HB.out.trans (hb.mono HB.out.size))
  have HS' : Hid (w.heap.size + 2 ≤ _) := Lib.hid (Nat.le_trans HS.out hb.size)
  clear hb HX0 HX1 HB HS 
  have HX0 := HX0'
  have HX1 := HX1'
  have HB := HB'
  have HS := HS'
  clear HX0' HX1' HB' HS' 
  go_wp2_with (first | refine wpList_load_rowG rfl _ _ rfl (w.heap.size) rfl 44 cs0 (0, 0) _ HX0.out Try.underlying44 rfl HI0.out ?_ | refine wpList_load_rowG rfl _ _ rfl (w.heap.size + 1) rfl 44 cs1 (0, 0) _ HX1.out Try.underlying44 rfl HI1.out ?_)
  refine (msg_any _ x1 _ (HM1.out.on HB.out)).mono ?_
  rintro e wm1 hP
  obtain ⟨_, u1, he, ho, hb⟩ := hP.resolve_right (fun h => h.1 Q1.out)
  rw [he.out]
  clear he hP
  obtain ⟨am1, cm1, hv⟩ := ho.slice
  subst hv
  have HU1 := Lib.hid (ho.bt (by have := few_len Q1.out (HF1.out (by first | rfl | trivial)); omega))
  clear ho
  have HX0' := Lib.hid ((hb.block _ (by have := HS.out; omega)).trans HX0.out)
  have HX1' := Lib.hid ((hb.block _ (by have := HS.out; omega)).trans HX1.out)
  have HB' := Lib.hid (HB.out.trans (hb.mono HB.out.size))
  have HS' : Hid (w.heap.size + 2 ≤ _) := Lib.hid (Nat.le_trans HS.out hb.size)
  have HU0' := Lib.hid (HU0.out.below hb)
  clear hb HX0 HX1 HB HS HU0
  have HX0 := HX0'
  have HX1 := HX1'
  have HB := HB'
  have HS := HS'
  have HU0 := HU0'
  clear HX0' HX1' HB' HS' HU0'
  go_wp2_with (first | refine wpList_load_rowG rfl _ _ rfl (w.heap.size) rfl 44 cs0 (0, 0) _ HX0.out Try.underlying44 rfl HI0.out ?_ | refine wpList_load_rowG rfl _ _ rfl (w.heap.size + 1) rfl 44 cs1 (0, 0) _ HX1.out Try.underlying44 rfl HI1.out ?_)
  refine (frame_any _ x0 _ (HM0.out.on HB.out)).mono ?_
  rintro e wr0 hP
  obtain ⟨_, _, t0, he, ho, hb⟩ := hP.resolve_right (fun h => h.elim (fun k => k.2.1 (by have := few_len Q0.out (HF0.out (by first | rfl | trivial)); omega)) (fun k => k.1 Q0.out))
  rw [he.out]
  clear he hP
  obtain ⟨ar0, cr0, hv, _⟩ := ho.row
  subst hv
  have HT0 := Lib.hid ho
  clear ho
  have HX0' := Lib.hid ((hb.block _ (by have := HS.out; omega)).trans HX0.out)
  have HX1' := Lib.hid ((hb.block _ (by have := HS.out; omega)).trans HX1.out)
  have HB' := Lib.hid (HB.out.trans (hb.mono HB.out.size))
  have HS' : Hid (w.heap.size + 2 ≤ _) := Lib.hid (Nat.le_trans HS.out hb.size)
  have HU0' := Lib.hid (HU0.out.below hb)
  have HU1' := Lib.hid (HU1.out.below hb)
  clear hb HX0 HX1 HB HS HU0 HU1
  have HX0 := HX0'
  have HX1 := HX1'
  have HB := HB'
  have HS := HS'
  have HU0 := HU0'
  have HU1 := HU1'
  clear HX0' HX1' HB' HS' HU0' HU1'
  go_wp2_with (first | refine wpList_load_rowG rfl _ _ rfl (w.heap.size) rfl 44 cs0 (0, 0) _ HX0.out Try.underlying44 rfl HI0.out ?_ | refine wpList_load_rowG rfl _ _ rfl (w.heap.size + 1) rfl 44 cs1 (0, 0) _ HX1.out Try.underlying44 rfl HI1.out ?_)
  refine (frame_any _ x1 _ (HM1.out.on HB.out)).mono ?_
  rintro e wr1 hP
  obtain ⟨_, _, t1, he, ho, hb⟩ := hP.resolve_right (fun h => h.elim (fun k => k.2.1 (by have := few_len Q1.out (HF1.out (by first | rfl | trivial)); omega)) (fun k => k.1 Q1.out))
  rw [he.out]
  clear he hP
  obtain ⟨ar1, cr1, hv, _⟩ := ho.row
  subst hv
  have HT1 := Lib.hid ho
  clear ho
  have HX0' := Lib.hid ((hb.block _ (by have := HS.out; omega)).trans HX0.out)
  have HX1' := Lib.hid ((hb.block _ (by have := HS.out; omega)).trans HX1.out)
  have HB' := Lib.hid (HB.out.trans (hb.mono HB.out.size))
  have HS' : Hid (w.heap.size + 2 ≤ _) := Lib.hid (Nat.le_trans HS.out hb.size)
  have HU0' := Lib.hid (HU0.out.below hb)
  have HU1' := Lib.hid (HU1.out.below hb)
  have HT0' := Lib.hid (HT0.out.below hb)
  clear hb HX0 HX1 HB HS HU0 HU1 HT0
  have HX0 := HX0'
  have HX1 := HX1'
  have HB := HB'
  have HS := HS'
  have HU0 := HU0'
  have HU1 := HU1'
  have HT0 := HT0'
  clear HX0' HX1' HB' HS' HU0' HU1' HT0'
  go_upto_region 12 with fail
  go_cut [14] from 54 to 58 (fun s wx => s = .bool ((txM (msC.fs x0)).toList == (txM (msC.fs x1)).toList) ∧ Hid (Below wr1.heap.size wr1 wx))
  case first =>
    have HC0 : Hid (∀ W, Below wr1.heap.size wr1 W → Calls Try.prog 21 #[.agg cs0] W (TxP (msC.fs x0) W)) := Lib.hid (fun W hW => ro_texts _ x0 W (HM0.out.on (HB.out.trans (hW.mono HB.out.size))) HZ0.out)
    have HC1 : Hid (∀ W, Below wr1.heap.size wr1 W → Calls Try.prog 21 #[.agg cs1] W (TxP (msC.fs x1) W)) := Lib.hid (fun W hW => ro_texts _ x1 W (HM1.out.on (HB.out.trans (hW.mono HB.out.size))) HZ1.out)
    refine wp_region_held_drew (S := fun w' => Below wr1.heap.size wr1 w') (by kernel_rfl) ?_ (fun hHeld => ?_)
    · (first | exact Below.refl _ _ | exact (Below.refl _ _).drew | assumption | exact below_self (by assumption) (by assumption))
    refine wpAnyH_ready (rs := [0, 2]) (by kernel_rfl) (by simp) ?_
    refine (AllReadyH.cons rfl (fun K hK => ?_) (AllReadyH.cons rfl (fun K hK => ?_) AllReadyH.nil))
    ·
      refine step_loadC (by rfl) _ _ rfl (w.heap.size) rfl 44 cs0 (0, 0) _ (((by assumption : Below wr1.heap.size wr1 _).block _ (by have := HS.out; omega)).trans HX0.out) Try.underlying44 HI0.out ?_
      refine hK.out _ _ ?_ (fun hHeld => ?_)
      · (first | exact Below.refl _ _ | exact (Below.refl _ _).drew | assumption | exact below_self (by assumption) (by assumption))
      clear hK K
      try simp only [Act.put, List.setIfInBounds_toArray, List.set_cons_zero, List.set_cons_succ, List.getElem_toArray, List.getElem_cons_zero, List.getElem_cons_succ]
      refine wpAnyH_ready (rs := [1, 2]) (by kernel_rfl) (by simp) ?_
      refine (AllReadyH.cons rfl (fun K hK => ?_) (AllReadyH.cons rfl (fun K hK => ?_) AllReadyH.nil))
      ·
        go_simp
        (go_at_call 21; refine (HC0.out _ (by assumption)).mono ?_; rintro e y ⟨he, hy⟩; rw [he.out]; clear he; have hy := below_self (by assumption) hy)
        refine hK.out _ _ ?_ (fun hHeld => ?_)
        · (first | exact Below.refl _ _ | exact (Below.refl _ _).drew | assumption | exact below_self (by assumption) (by assumption))
        clear hK K
        try simp only [Act.put, List.setIfInBounds_toArray, List.set_cons_zero, List.set_cons_succ, List.getElem_toArray, List.getElem_cons_zero, List.getElem_cons_succ]
        refine wpAnyH_ready (rs := [2]) (by kernel_rfl) (by simp) ?_
        refine (AllReadyH.cons rfl (fun K hK => ?_) AllReadyH.nil)
        refine step_loadC (by rfl) _ _ rfl (w.heap.size + 1) rfl 44 cs1 (0, 0) _ (((by assumption : Below wr1.heap.size wr1 _).block _ (by have := HS.out; omega)).trans HX1.out) Try.underlying44 HI1.out ?_
        refine hK.out _ _ ?_ (fun hHeld => ?_)
        · (first | exact Below.refl _ _ | exact (Below.refl _ _).drew | assumption | exact below_self (by assumption) (by assumption))
        clear hK K
        try simp only [Act.put, List.setIfInBounds_toArray, List.set_cons_zero, List.set_cons_succ, List.getElem_toArray, List.getElem_cons_zero, List.getElem_cons_succ]
        refine wpAnyH_ready (rs := [3]) (by kernel_rfl) (by simp) ?_
        refine (AllReadyH.cons rfl (fun K hK => ?_) AllReadyH.nil)
        go_simp
        (go_at_call 21; refine (HC1.out _ (by assumption)).mono ?_; rintro e y ⟨he, hy⟩; rw [he.out]; clear he; have hy := below_self (by assumption) hy)
        refine hK.out _ _ ?_ (fun hHeld => ?_)
        · (first | exact Below.refl _ _ | exact (Below.refl _ _).drew | assumption | exact below_self (by assumption) (by assumption))
        clear hK K
        try simp only [Act.put, List.setIfInBounds_toArray, List.set_cons_zero, List.set_cons_succ, List.getElem_toArray, List.getElem_cons_zero, List.getElem_cons_succ]
        refine wpAnyH_take (i := 4) (v := ?_) rfl (by kernel_rfl) (by kernel_rfl) (by kernel_rfl) (fun _ _ _ h => h) (Or.inl ⟨by rfl, ?_⟩) (by assumption) ?_
        rotate_left
        · (intro w hSw; (try dsimp only at hSw); go_simp; try rfl)
        try simp only [Act.put, List.setIfInBounds_toArray, List.set_cons_zero, List.set_cons_succ, List.getElem_toArray, List.getElem_cons_zero, List.getElem_cons_succ]
        refine wpAnyH_take (i := 5) (v := ?_) rfl (by kernel_rfl) (by kernel_rfl) (by kernel_rfl) (fun _ _ _ h => h) (Or.inl ⟨by rfl, ?_⟩) (by assumption) ?_
        rotate_left
        · (intro w hSw; (try dsimp only at hSw); go_simp; try rfl)
        try simp only [Act.put, List.setIfInBounds_toArray, List.set_cons_zero, List.set_cons_succ, List.getElem_toArray, List.getElem_cons_zero, List.getElem_cons_succ]
        refine wpAnyH_done (by kernel_rfl) ?_ _
        go_wp2_with fail
        go_meet
        exact ⟨rfl, Lib.hid (by assumption)⟩
      ·
        refine step_loadC (by rfl) _ _ rfl (w.heap.size + 1) rfl 44 cs1 (0, 0) _ (((by assumption : Below wr1.heap.size wr1 _).block _ (by have := HS.out; omega)).trans HX1.out) Try.underlying44 HI1.out ?_
        refine hK.out _ _ ?_ (fun hHeld => ?_)
        · (first | exact Below.refl _ _ | exact (Below.refl _ _).drew | assumption | exact below_self (by assumption) (by assumption))
        clear hK K
        try simp only [Act.put, List.setIfInBounds_toArray, List.set_cons_zero, List.set_cons_succ, List.getElem_toArray, List.getElem_cons_zero, List.getElem_cons_succ]
        refine wpAnyH_ready (rs := [1]) (by kernel_rfl) (by simp) ?_
        refine (AllReadyH.cons rfl (fun K hK => ?_) AllReadyH.nil)
        go_simp
        (go_at_call 21; refine (HC0.out _ (by assumption)).mono ?_; rintro e y ⟨he, hy⟩; rw [he.out]; clear he; have hy := below_self (by assumption) hy)
        refine hK.out _ _ ?_ (fun hHeld => ?_)
        · (first | exact Below.refl _ _ | exact (Below.refl _ _).drew | assumption | exact below_self (by assumption) (by assumption))
        clear hK K
        try simp only [Act.put, List.setIfInBounds_toArray, List.set_cons_zero, List.set_cons_succ, List.getElem_toArray, List.getElem_cons_zero, List.getElem_cons_succ]
        refine wpAnyH_ready (rs := [3]) (by kernel_rfl) (by simp) ?_
        refine (AllReadyH.cons rfl (fun K hK => ?_) AllReadyH.nil)
        go_simp
        (go_at_call 21; refine (HC1.out _ (by assumption)).mono ?_; rintro e y ⟨he, hy⟩; rw [he.out]; clear he; have hy := below_self (by assumption) hy)
        refine hK.out _ _ ?_ (fun hHeld => ?_)
        · (first | exact Below.refl _ _ | exact (Below.refl _ _).drew | assumption | exact below_self (by assumption) (by assumption))
        clear hK K
        try simp only [Act.put, List.setIfInBounds_toArray, List.set_cons_zero, List.set_cons_succ, List.getElem_toArray, List.getElem_cons_zero, List.getElem_cons_succ]
        refine wpAnyH_take (i := 4) (v := ?_) rfl (by kernel_rfl) (by kernel_rfl) (by kernel_rfl) (fun _ _ _ h => h) (Or.inl ⟨by rfl, ?_⟩) (by assumption) ?_
        rotate_left
        · (intro w hSw; (try dsimp only at hSw); go_simp; try rfl)
        try simp only [Act.put, List.setIfInBounds_toArray, List.set_cons_zero, List.set_cons_succ, List.getElem_toArray, List.getElem_cons_zero, List.getElem_cons_succ]
        refine wpAnyH_take (i := 5) (v := ?_) rfl (by kernel_rfl) (by kernel_rfl) (by kernel_rfl) (fun _ _ _ h => h) (Or.inl ⟨by rfl, ?_⟩) (by assumption) ?_
        rotate_left
        · (intro w hSw; (try dsimp only at hSw); go_simp; try rfl)
        try simp only [Act.put, List.setIfInBounds_toArray, List.set_cons_zero, List.set_cons_succ, List.getElem_toArray, List.getElem_cons_zero, List.getElem_cons_succ]
        refine wpAnyH_done (by kernel_rfl) ?_ _
        go_wp2_with fail
        go_meet
        exact ⟨rfl, Lib.hid (by assumption)⟩
    ·
      refine step_loadC (by rfl) _ _ rfl (w.heap.size + 1) rfl 44 cs1 (0, 0) _ (((by assumption : Below wr1.heap.size wr1 _).block _ (by have := HS.out; omega)).trans HX1.out) Try.underlying44 HI1.out ?_
      refine hK.out _ _ ?_ (fun hHeld => ?_)
      · (first | exact Below.refl _ _ | exact (Below.refl _ _).drew | assumption | exact below_self (by assumption) (by assumption))
      clear hK K
      try simp only [Act.put, List.setIfInBounds_toArray, List.set_cons_zero, List.set_cons_succ, List.getElem_toArray, List.getElem_cons_zero, List.getElem_cons_succ]
      refine wpAnyH_ready (rs := [0]) (by kernel_rfl) (by simp) ?_
      refine (AllReadyH.cons rfl (fun K hK => ?_) AllReadyH.nil)
      refine step_loadC (by rfl) _ _ rfl (w.heap.size) rfl 44 cs0 (0, 0) _ (((by assumption : Below wr1.heap.size wr1 _).block _ (by have := HS.out; omega)).trans HX0.out) Try.underlying44 HI0.out ?_
      refine hK.out _ _ ?_ (fun hHeld => ?_)
      · (first | exact Below.refl _ _ | exact (Below.refl _ _).drew | assumption | exact below_self (by assumption) (by assumption))
      clear hK K
      try simp only [Act.put, List.setIfInBounds_toArray, List.set_cons_zero, List.set_cons_succ, List.getElem_toArray, List.getElem_cons_zero, List.getElem_cons_succ]
      refine wpAnyH_ready (rs := [1]) (by kernel_rfl) (by simp) ?_
      refine (AllReadyH.cons rfl (fun K hK => ?_) AllReadyH.nil)
      go_simp
      (go_at_call 21; refine (HC0.out _ (by assumption)).mono ?_; rintro e y ⟨he, hy⟩; rw [he.out]; clear he; have hy := below_self (by assumption) hy)
      refine hK.out _ _ ?_ (fun hHeld => ?_)
      · (first | exact Below.refl _ _ | exact (Below.refl _ _).drew | assumption | exact below_self (by assumption) (by assumption))
      clear hK K
      try simp only [Act.put, List.setIfInBounds_toArray, List.set_cons_zero, List.set_cons_succ, List.getElem_toArray, List.getElem_cons_zero, List.getElem_cons_succ]
      refine wpAnyH_ready (rs := [3]) (by kernel_rfl) (by simp) ?_
      refine (AllReadyH.cons rfl (fun K hK => ?_) AllReadyH.nil)
      go_simp
      (go_at_call 21; refine (HC1.out _ (by assumption)).mono ?_; rintro e y ⟨he, hy⟩; rw [he.out]; clear he; have hy := below_self (by assumption) hy)
      refine hK.out _ _ ?_ (fun hHeld => ?_)
      · (first | exact Below.refl _ _ | exact (Below.refl _ _).drew | assumption | exact below_self (by assumption) (by assumption))
      clear hK K
      try simp only [Act.put, List.setIfInBounds_toArray, List.set_cons_zero, List.set_cons_succ, List.getElem_toArray, List.getElem_cons_zero, List.getElem_cons_succ]
      refine wpAnyH_take (i := 4) (v := ?_) rfl (by kernel_rfl) (by kernel_rfl) (by kernel_rfl) (fun _ _ _ h => h) (Or.inl ⟨by rfl, ?_⟩) (by assumption) ?_
      rotate_left
      · (intro w hSw; (try dsimp only at hSw); go_simp; try rfl)
      try simp only [Act.put, List.setIfInBounds_toArray, List.set_cons_zero, List.set_cons_succ, List.getElem_toArray, List.getElem_cons_zero, List.getElem_cons_succ]
      refine wpAnyH_take (i := 5) (v := ?_) rfl (by kernel_rfl) (by kernel_rfl) (by kernel_rfl) (fun _ _ _ h => h) (Or.inl ⟨by rfl, ?_⟩) (by assumption) ?_
      rotate_left
      · (intro w hSw; (try dsimp only at hSw); go_simp; try rfl)
      try simp only [Act.put, List.setIfInBounds_toArray, List.set_cons_zero, List.set_cons_succ, List.getElem_toArray, List.getElem_cons_zero, List.getElem_cons_succ]
      refine wpAnyH_done (by kernel_rfl) ?_ _
      go_wp2_with fail
      go_meet
      exact ⟨rfl, Lib.hid (by assumption)⟩
  case rest =>
  obtain ⟨rfl, hbc⟩ := hcut
  have hb := hbc.out
  clear hbc
  have h1 := bt_str (HU0.out.below hb)
  have h2 := bt_str (HU1.out.below hb)
  have h3 := bt_str (HT0.out.below hb)
  have h4 := bt_str (HT1.out.below hb)
  have HBF := Lib.hid (HB.out.trans (hb.mono HB.out.size))
  have e1 := txM_eq Q0.out Q1.out
  have e2 := txt_eqC (eF_byte Q0.out) (eF_byte Q1.out)
  have l0 := few_len Q0.out (HF0.out (by first | rfl | trivial))
  have l1 := few_len Q1.out (HF1.out (by first | rfl | trivial))
  have e3 : ((txt (frm (eF (msC.fs x0)))).toList == (txt (frm (eF (msC.fs x1)))).toList) = decide (eF (msC.fs x0) = eF (msC.fs x1)) := by
    rw [txt_eqC (frm_range (eF_byte Q0.out) (by omega)) (frm_range (eF_byte Q1.out) (by omega))]
    exact decide_eq_decide.2 frm_inj
  rw [e1]
  obtain ⟨B, hB⟩ : ∃ B, decide (eF (msC.fs x0) = eF (msC.fs x1)) = B := ⟨_, rfl⟩
  rw [hB] at e1 e2 e3 ⊢
  clear hB l0 l1 hb HX0 HX1 HU0 HU1 HT0 HT1
  go_wp2_with fail
  go_ret
  exact ⟨by simp, HBF.out⟩
theorem apart_law (v0 v1 : Value) (x0 x1 : Msg7) (w : World) (h0 : MsgIs w v0 x0) (h1 : MsgIs w v1 x1) (z0 : RchI x0.2.2.2.2.2.1 x0.2.2.2.2.2.2) (z1 : RchI x1.2.2.2.2.2.1 x1.2.2.2.2.2.2) :
    Calls Try.prog 8 #[v0, v1] w (TruP w) := by
  by_cases q0 : Oks (msC.fs x0)
  · by_cases q1 : Oks (msC.fs x1)
    · exact apart_good v0 v1 x0 x1 w h0 h1 z0 z1 q0 q1
    · exact apart_bad1 v0 v1 x0 x1 w h0 h1 z0 z1 q0 q1
  · by_cases q1 : Oks (msC.fs x1)
    · exact apart_bad0 v0 v1 x0 x1 w h0 h1 z0 z1 q0 q1
    · exact apart_bad2 v0 v1 x0 x1 w h0 h1 z0 z1 q0 q1
end Go.Proofs.Ytllcmapgigfgoaa
