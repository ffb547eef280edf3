/-
  set, get, cas.
-/
import Derived.Test.YtoojfbeikohikaaDir4
namespace Go.Proofs.Ytoojfbeikohikaa
open Go.RowKit Go.Sort
open Go.WideMaps
set_option linter.unusedSimpArgs false
set_option linter.unusedVariables false

theorem look_run {w : World} {b m : Nat} {D : DataW Unit} {l : List E3} (hM : w.ownsMap (H := Unit) Try.prog 9 heldElem b m D) (hI : DirIs D l) {p : ByteArray} (hp : p.size ≤ 1000) :
    (Instr.lookup 53 (.map (some b)) (.string p) false).run Try.prog w = .ok (hV ((fndD l p).getD zH).1 ((fndD l p).getD zH).2) w := by
  obtain ⟨v, ps, hr, hv⟩ := hM.lookup strK Try.underlying53 (zeroH w) (heldElem_mk _ _) (kS_key hp)
  obtain ⟨u, n, rfl, hz⟩ := heldElem_inv hv
  have e := hI.look p
  have h1 := congrArg Prod.fst hz
  change D.atKey (kS p) (hD zH) = hD (u, n) at h1
  rw [e] at h1
  have := hD_inj h1
  rw [this]
  exact hr
theorem wpList_look {ops : Array Oper} {rest : List Oper} {o : Oper} {a : Act} {w : World} {Q : Exit → Act → World → Prop} (hgd : o.guard = none) (m x : Operand) (ho : o.op = .lookup 53 m x false) (b : Nat) (hm : a.eval m = .map (some b)) (p : ByteArray) (hx : a.eval x = .string p)
    (v : Value) (hr : (Instr.lookup 53 (.map (some b)) (.string p) false).run Try.prog w = .ok v w) (h : wpList Try.prog ops Q rest (a.put o.dst v) w) : wpList Try.prog ops Q (o :: rest) a w := by
  refine wpList_value (by simp [Region.wanted, hgd]) v w ?_ h
  unfold execOp
  simp only [ho, hm, hx, Sem.run_bind, hr, Result.andThen_ok, Sem.run_pure]
theorem run_ver (u : ByteArray) (n : Int) (w : World) : (Instr.field 63 (.agg #[.string u, .int .i64 n]) 1).run Try.prog w = .ok (.int .i64 n) w := by kernel_rfl
def setD (l : List E3) (p v : ByteArray) : Rep × List E3 := match fndD l p with
  | none => (bad 2, l)
  | some x => (⟨0, { data := #[] }, x.2 + 1, []⟩, putD l p v (x.2 + 1))
theorem thrD_no {l : List E3} {p : ByteArray} (h : p ≠ pth []) : thrD l p = (fndD l p).isSome := by simp [thrD, h]
set_option maxRecDepth 100000 in
set_option maxHeartbeats 1000000 in
theorem set_any (d bk K : Nat) (l : List E3) (cl sq op : Int) (p v : ByteArray) (ver a b : Int) (w : World) (hd : DirAt w d bk K l) (hK : K ≤ 1000000) (hp : p.size ≤ 1000) (hv : vld p = true) (hr : p ≠ pth []) (hver : ∀ e ∈ l, 0 ≤ e.2.2 ∧ e.2.2 ≤ 4000000000000) :
    Calls Try.prog 38 #[dP d, cmdV cl sq op p v ver a b] w (AppP (setD l p v) d bk K w) := by
  obtain ⟨X, hX⟩ : ∃ X, box2 w cl sq op p v ver a b = X := ⟨_, rfl⟩
  have hB : Below w.heap.size w X := by rw [← hX]; exact box2_below ..
  have hBX : BX w.heap.size cl sq op p v ver a b X := by rw [← hX]; exact BX.mk0 ..
  have HD := Lib.hid hd
  have HDX := Lib.hid (hd.below hB)
  have HB := Lib.hid hB
  have HBX := Lib.hid hBX
  have HV := Lib.hid hv
  have HP := Lib.hid hp
  have HVER := Lib.hid hver
  have HR := Lib.hid hr
  have c3 := hBX.c.2.2.2.1
  clear hd hB hBX hv hp hver hr
  go_enter Try.func38, Try.ntmps38
  go_wp2_with fail
  refine (there_any d bk K l p X HDX.out HP.out).mono ?_
  rintro e w1 ⟨rfl, hb⟩
  have HB1 := Lib.hid (below_self HB.out hb)
  have HD1 := Lib.hid (HDX.out.below hb)
  have HBX1 := Lib.hid (HBX.out.below hb)
  clear hb HDX HBX c3 hX
  rw [thrD_no HR.out]
  cases hF : fndD l p with
  | none =>
    have HF := Lib.hid hF
    clear hF
    rw [show (none : Option (ByteArray × Int)).isSome = false from rfl]
    go_wp2_with fail
    refine (failed_any 2 w1).mono ?_
    rintro e w2 ⟨rfl, hb⟩
    have HB2 := Lib.hid (below_self HB1.out hb)
    have HBX2 := HBX1.out.below hb
    obtain ⟨r0, r1, r2, r3⟩ := HBX2.r
    obtain ⟨f0, f1⟩ := HBX2.f
    have z2 := HBX2.z
    clear hb HBX2
    go_wp2
    refine bodyPost_ret (v := repV (bad 2) (.slice none 0 0)) (by simp [results, Try.results38, go_sem, bad, r0, r1, r2, r3, f1, show w.heap.size + 1 < w2.heap.size by omega]) rfl ?_
    rw [setD, HF.out]
    exact AppP.bad HD.out (below4 HB2.out _ _ _ _) _ rfl
  | some x =>
    obtain ⟨u, n⟩ := x
    have HF := Lib.hid hF
    have hn := HVER.out _ ((fndD_some HD.out.rise).1 hF)
    have n1 : 0 ≤ n := hn.1
    have n2 : n ≤ 4000000000000 := hn.2
    clear hF hn
    rw [show (some (u, n) : Option (ByteArray × Int)).isSome = true from rfl]
    obtain ⟨D, m, hm, hM, hI⟩ := HD1.out.map
    have hrun : (Instr.lookup 53 (.map (some bk)) (.string p) false).run Try.prog w1.drew = .ok (hV u n) w1.drew := by
      have := look_run hM.drew hI HP.out
      rw [HF.out] at this
      exact this
    have HRUN := Lib.hid hrun
    have HMX := Lib.hid hM
    have HI := Lib.hid hI
    have HMM := Lib.hid hm
    have dc := HD1.out.cell
    have c3 := HBX1.out.c.2.2.2.1
    have c4 := HBX1.out.c.2.2.2.2.1
    have HKEY := Lib.hid (kS_key HP.out)
    have hm' : m < maxLen := by unfold maxLen; omega
    have HMAX := Lib.hid hm'
    clear hm hM hI hm' hrun
    have hfd := run_ver u n
    go_wp2_with fail
    go_still_tail 6, (by kernel_rfl)
    refine wpList_look rfl _ _ rfl bk rfl p rfl (.agg #[.string u, .int .i64 n]) HRUN.out ?_
    go_wp2_with fail
    have hbd : Below w1.heap.size w1 w1.drew := (Below.refl _ _).drew
    have HBd := Lib.hid (below_self HB1.out hbd)
    have HDd := Lib.hid (HD1.out.below hbd)
    have HBXd := Lib.hid (HBX1.out.below hbd)
    have HMd : Hid (w1.drew.ownsMap (H := Unit) Try.prog 9 heldElem bk m D) := Lib.hid HMX.out.drew
    clear HRUN hbd dc c3 c4 HMX HBX1 HD1 HB1 hfd
    generalize w1.drew = w3 at *
    have dc := HDd.out.cell
    have c3 := HBXd.out.c.2.2.2.1
    have c4 := HBXd.out.c.2.2.2.2.1
    go_still_tail 10, (by kernel_rfl)
    refine wpList_mapUpdate_own _ rfl _ _ _ 53 rfl 9 63 strK Try.underlying53 heldElem bk m D rfl HMd.out.drew HMAX.out (.string p) (hV v (n + 1)) (kS p) rfl rfl HKEY.out (hD (v, n + 1)) [] (heldElem_mk _ _) ?_
    intro w4 hown hg
    have hg2 : w3.grownBy w4 (some bk) := ⟨hg.os, hg.tape, hg.output, hg.size, hg.block⟩
    have hlt := HD.out.lt
    have HBX4 := HBXd.out.out hg2 hlt.2
    have HO4 := Lib.hid hown
    have HG4 := Lib.hid (outT (outB (b := bk) HBd.out) hg2)
    have hdc : w4.cell? ⟨d, 0, none⟩ = some (.map (some bk)) := hg2.cell dc (by simpa using HD.out.ne)
    have HDC := Lib.hid hdc
    obtain ⟨r0, r1, r2, r3⟩ := HBX4.r
    obtain ⟨f0, f1⟩ := HBX4.f
    have z2 := HBX4.z
    clear hown hg hg2 hlt HBX4 hdc dc c3 c4
    go_wp2
    refine bodyPost_ret (v := repV ⟨0, { data := #[] }, n + 1, []⟩ (.slice none 0 0)) (by simp [results, Try.results38, go_sem, bad, r0, r1, r2, r3, f1, show w.heap.size + 1 < w4.heap.size by omega]) rfl ?_
    have ho : okP p := okP_ne HV.out HR.out
    rw [setD, HF.out]
    have hlt := HD.out.lt
    have hD4 : DirAt w4 d bk (K + 1) (putD l p v (n + 1)) := ⟨HDC.out, ⟨_, m + 1, by have := HMM.out; omega, HO4.out, HI.out.put HD.out.rise HD.out.keys ho v (n + 1)⟩, HD.out.rise.put p v (n + 1), HD.out.keys.put ho v (n + 1)⟩
    exact AppP.ok hD4 HG4.out hlt (below4 (Below.refl _ w4) _ _ _ _) rfl _ rfl
end Go.Proofs.Ytoojfbeikohikaa
