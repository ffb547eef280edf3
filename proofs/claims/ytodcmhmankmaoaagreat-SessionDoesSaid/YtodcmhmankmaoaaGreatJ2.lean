/-
  Texts put together: DirB.
-/
import Derived.Test.YtodcmhmankmaoaaGreatJ1
namespace Go.Proofs.YtodcmhmankmaoaaGreat
open Go.RowKit
open Go.MapKept
set_option linter.unusedSimpArgs false
set_option linter.unusedVariables false

set_option maxRecDepth 100000 in
set_option maxHeartbeats 2000000 in
theorem apply_create_bad (d bk K : Nat) (l : List E3) (cl sq : Int) (p v : ByteArray) (ver a b : Int) (w : World) (hd : DirAt w d bk K l) (hK : K ≤ 1000000) (hp : p.size ≤ 1000) (hm : ML w) (hver : ∀ e ∈ l, 0 ≤ e.2.2 ∧ e.2.2 ≤ 4000000000000) (hr : rgt 1 p v = false) :
    Calls Tryz.prog 10 #[dP d, cmdV cl sq 1 p v ver a b] w (AppP (appD l 1 p v ver) d bk K w) := by
  have HF : Hid (Instr.findNow (.int .i64) (.int .i64 1) tabE.toList 0 = some (some (0, fnV 61))) := rfl
  have HP := Lib.hid hp
  have HM := Lib.hid hm
  have HVER := Lib.hid hver
  have HR := Lib.hid hr
  have HE : Hid (appD l 1 p v ver = (bad 1, l)) := Lib.hid (by simp [appD, hr])
  clear hp hm hver hr
  obtain ⟨X, hX⟩ : ∃ X, box2 w cl sq 1 p v ver a b = X := ⟨_, rfl⟩
  have hB : Below w.heap.size w X := by rw [← hX]; exact box2_below ..
  have hBX : BX w.heap.size cl sq 1 p v ver a b X := by rw [← hX]; exact BX.mk0 ..
  have HD := Lib.hid hd
  have HDX := Lib.hid (hd.below hB)
  have HB := Lib.hid hB
  have HBX := Lib.hid hBX
  have HK2 := Lib.hid hBX.c.2.2.1
  have HLT : Hid ((⟨w.heap.size, 2, none⟩ : Addr).block < X.heap.size) := Lib.hid (by have := hBX.z; show w.heap.size < _; omega)
  go_enter Tryz.func10, Tryz.ntmps10
  clear hd hB hBX
  go_wp2_with fail
  go_region_held3 (fun w' => w'.cell? ⟨w.heap.size, 2, none⟩ = some (.int .i64 1) ∧ Below X.heap.size X w')
    (first
      | exact also3 (Below.refl _ _) HK2.out HLT.out
      | exact also3 (Below.refl _ _).drew HK2.out HLT.out
      | (go_split_ands; first | exact also3 (below_self (by assumption) (by assumption)) HK2.out HLT.out | exact also3 (by assumption) HK2.out HLT.out))
    (first
      | (go_at_call 35; refine (operations_any _).mono ?_; rintro e w1 ⟨b1, rfl, hb1, hb⟩; have hrun : (Instr.lookup 76 (.map (some b1)) (.int .i64 1) true).run Tryz.prog w1 = .ok (.tuple #[fnV 61, .bool true]) w1 := run_look w1 b1 hb1 1 (some (0, fnV 61)) HF.out _ zeroF; clear hb1))
  all_goals
    go_split_ands
    have hb' : Below X.heap.size X w1 := by assumption
    have HB1 := Lib.hid (below_self HB.out hb')
    have HBX1 := Lib.hid (HBX.out.below hb')
    have HD1 := Lib.hid (HDX.out.below hb')
    have HM1 := Lib.hid (HM.out.below HB1.out)
    obtain ⟨c0, c1, c2, c3, c4, c5, c6, c7⟩ := HBX1.out.c
    clear hb' HBX HDX HB
    go_wp2_with fail
    refine (right_any cl sq 1 p v ver a b w1 HP.out HM1.out).mono ?_
    rw [HR.out]
    rintro e w2 ⟨rfl, hb⟩
    have HB2 := Lib.hid (below_self HB1.out hb)
    have HBX2 := Lib.hid (HBX1.out.below hb)
    have HD2 := Lib.hid (HD1.out.below hb)
    have HM2 := Lib.hid (HM1.out.below hb)
    clear hb HBX1 HD1 HM1 c0 c1 c2 c3 c4 c5 c6 c7 HB1
    go_wp2_with fail
    refine (failed_any 1 w2).mono ?_
    rintro e w9 ⟨rfl, hb⟩
    have HB9 := Lib.hid (below_self HB2.out hb)
    have HBX9 := HBX2.out.below hb
    obtain ⟨r0, r1, r2, r3⟩ := HBX9.r
    obtain ⟨f0, f1⟩ := HBX9.f
    have z9 := HBX9.z
    clear hb HBX9 
    go_wp2
    refine bodyPost_ret (v := repV (bad 1) (.slice none 0 0)) (by simp [results, Tryz.results10, go_sem, bad, r0, r1, r2, r3, f1, show w.heap.size + 1 < w9.heap.size by omega]) rfl ?_
    rw [HE.out]
    exact AppP.bad HD.out (below4 HB9.out _ _ _ _) _ rfl
set_option maxRecDepth 100000 in
set_option maxHeartbeats 2000000 in
theorem apply_create (d bk K : Nat) (l : List E3) (cl sq : Int) (p v : ByteArray) (ver a b : Int) (w : World) (hd : DirAt w d bk K l) (hK : K ≤ 1000000) (hp : p.size ≤ 1000) (hm : ML w) (hver : ∀ e ∈ l, 0 ≤ e.2.2 ∧ e.2.2 ≤ 4000000000000) (hr : rgt 1 p v = true) :
    Calls Tryz.prog 10 #[dP d, cmdV cl sq 1 p v ver a b] w (AppP (appD l 1 p v ver) d bk K w) := by
  have HF : Hid (Instr.findNow (.int .i64) (.int .i64 1) tabE.toList 0 = some (some (0, fnV 61))) := rfl
  have HP := Lib.hid hp
  have HM := Lib.hid hm
  have HVER := Lib.hid hver
  have HR := Lib.hid hr
  have HV : Hid (vld p = true) := Lib.hid (by have h := hr; simp only [rgt, Bool.and_eq_true] at h; exact h.1)
  obtain ⟨R, hR⟩ : ∃ R, crD l p v = R := ⟨_, rfl⟩
  have HE : Hid (appD l 1 p v ver = R) := Lib.hid (by rw [← hR]; simp [appD, hr])
  have HRR := Lib.hid hR
  clear hp hm hver hr hR
  obtain ⟨X, hX⟩ : ∃ X, box2 w cl sq 1 p v ver a b = X := ⟨_, rfl⟩
  have hB : Below w.heap.size w X := by rw [← hX]; exact box2_below ..
  have hBX : BX w.heap.size cl sq 1 p v ver a b X := by rw [← hX]; exact BX.mk0 ..
  have HD := Lib.hid hd
  have HDX := Lib.hid (hd.below hB)
  have HB := Lib.hid hB
  have HBX := Lib.hid hBX
  have HK2 := Lib.hid hBX.c.2.2.1
  have HLT : Hid ((⟨w.heap.size, 2, none⟩ : Addr).block < X.heap.size) := Lib.hid (by have := hBX.z; show w.heap.size < _; omega)
  go_enter Tryz.func10, Tryz.ntmps10
  clear hd hB hBX
  go_wp2_with fail
  go_region_held3 (fun w' => w'.cell? ⟨w.heap.size, 2, none⟩ = some (.int .i64 1) ∧ Below X.heap.size X w')
    (first
      | exact also3 (Below.refl _ _) HK2.out HLT.out
      | exact also3 (Below.refl _ _).drew HK2.out HLT.out
      | (go_split_ands; first | exact also3 (below_self (by assumption) (by assumption)) HK2.out HLT.out | exact also3 (by assumption) HK2.out HLT.out))
    (first
      | (go_at_call 35; refine (operations_any _).mono ?_; rintro e w1 ⟨b1, rfl, hb1, hb⟩; have hrun : (Instr.lookup 76 (.map (some b1)) (.int .i64 1) true).run Tryz.prog w1 = .ok (.tuple #[fnV 61, .bool true]) w1 := run_look w1 b1 hb1 1 (some (0, fnV 61)) HF.out _ zeroF; clear hb1))
  all_goals
    go_split_ands
    have hb' : Below X.heap.size X w1 := by assumption
    have HB1 := Lib.hid (below_self HB.out hb')
    have HBX1 := Lib.hid (HBX.out.below hb')
    have HD1 := Lib.hid (HDX.out.below hb')
    have HM1 := Lib.hid (HM.out.below HB1.out)
    obtain ⟨c0, c1, c2, c3, c4, c5, c6, c7⟩ := HBX1.out.c
    clear hb' HBX HDX HB
    go_wp2_with fail
    refine (right_any cl sq 1 p v ver a b w1 HP.out HM1.out).mono ?_
    rw [HR.out]
    rintro e w2 ⟨rfl, hb⟩
    have HB2 := Lib.hid (below_self HB1.out hb)
    have HBX2 := Lib.hid (HBX1.out.below hb)
    have HD2 := Lib.hid (HD1.out.below hb)
    have HM2 := Lib.hid (HM1.out.below hb)
    clear hb HBX1 HD1 HM1 c0 c1 c2 c3 c4 c5 c6 c7 HB1
    obtain ⟨c0, c1, c2, c3, c4, c5, c6, c7⟩ := HBX2.out.c
    go_wp2_with fail
    refine (create_any d bk K l cl sq 1 p v ver a b w2 HD2.out hK HP.out HV.out HM2.out).mono ?_
    rw [HRR.out]
    rintro e w5 ⟨⟨v5, he, ho⟩, hd5, hg5⟩
    obtain ⟨a5, cc5, hv5⟩ := ho.slice
    obtain ⟨M, hM⟩ : ∃ M, (List.map Value.string R.1.names).length = M := ⟨_, rfl⟩
    rw [hM] at hv5
    subst hv5
    have he2 := he.out
    subst he2
    have HO5 := Lib.hid ho
    have HD5 := Lib.hid hd5
    have HG5 := Lib.hid hg5
    have HBX5 := HBX2.out.out hg5 HD.out.lt.2
    obtain ⟨r0, r1, r2, r3⟩ := HBX5.r
    obtain ⟨f0, f1⟩ := HBX5.f
    have z5 := HBX5.z
    clear ho hd5 hg5 HBX5 he c0 c1 c2 c3 c4 c5 c6 c7 hM
    go_wp2
    refine bodyPost_ret (v := repV R.1 (.slice a5 M cc5)) (by simp [results, Tryz.results10, go_sem, r0, r1, r2, r3, f1, show w.heap.size + 1 < w5.heap.size by omega]) rfl ?_
    rw [HE.out]
    exact AppP.store (outB HB2.out) HBX2.out.z HD.out.lt HO5.out HD5.out HG5.out _ _ _ _ _ rfl
set_option maxRecDepth 100000 in
set_option maxHeartbeats 2000000 in
theorem apply_remove_bad (d bk K : Nat) (l : List E3) (cl sq : Int) (p v : ByteArray) (ver a b : Int) (w : World) (hd : DirAt w d bk K l) (hK : K ≤ 1000000) (hp : p.size ≤ 1000) (hm : ML w) (hver : ∀ e ∈ l, 0 ≤ e.2.2 ∧ e.2.2 ≤ 4000000000000) (hr : rgt 2 p v = false) :
    Calls Tryz.prog 10 #[dP d, cmdV cl sq 2 p v ver a b] w (AppP (appD l 2 p v ver) d bk K w) := by
  have HF : Hid (Instr.findNow (.int .i64) (.int .i64 2) tabE.toList 0 = some (some (1, fnV 62))) := rfl
  have HP := Lib.hid hp
  have HM := Lib.hid hm
  have HVER := Lib.hid hver
  have HR := Lib.hid hr
  have HE : Hid (appD l 2 p v ver = (bad 1, l)) := Lib.hid (by simp [appD, hr])
  clear hp hm hver hr
  obtain ⟨X, hX⟩ : ∃ X, box2 w cl sq 2 p v ver a b = X := ⟨_, rfl⟩
  have hB : Below w.heap.size w X := by rw [← hX]; exact box2_below ..
  have hBX : BX w.heap.size cl sq 2 p v ver a b X := by rw [← hX]; exact BX.mk0 ..
  have HD := Lib.hid hd
  have HDX := Lib.hid (hd.below hB)
  have HB := Lib.hid hB
  have HBX := Lib.hid hBX
  have HK2 := Lib.hid hBX.c.2.2.1
  have HLT : Hid ((⟨w.heap.size, 2, none⟩ : Addr).block < X.heap.size) := Lib.hid (by have := hBX.z; show w.heap.size < _; omega)
  go_enter Tryz.func10, Tryz.ntmps10
  clear hd hB hBX
  go_wp2_with fail
  go_region_held3 (fun w' => w'.cell? ⟨w.heap.size, 2, none⟩ = some (.int .i64 2) ∧ Below X.heap.size X w')
    (first
      | exact also3 (Below.refl _ _) HK2.out HLT.out
      | exact also3 (Below.refl _ _).drew HK2.out HLT.out
      | (go_split_ands; first | exact also3 (below_self (by assumption) (by assumption)) HK2.out HLT.out | exact also3 (by assumption) HK2.out HLT.out))
    (first
      | (go_at_call 35; refine (operations_any _).mono ?_; rintro e w1 ⟨b1, rfl, hb1, hb⟩; have hrun : (Instr.lookup 76 (.map (some b1)) (.int .i64 2) true).run Tryz.prog w1 = .ok (.tuple #[fnV 62, .bool true]) w1 := run_look w1 b1 hb1 2 (some (1, fnV 62)) HF.out _ zeroF; clear hb1))
  all_goals
    go_split_ands
    have hb' : Below X.heap.size X w1 := by assumption
    have HB1 := Lib.hid (below_self HB.out hb')
    have HBX1 := Lib.hid (HBX.out.below hb')
    have HD1 := Lib.hid (HDX.out.below hb')
    have HM1 := Lib.hid (HM.out.below HB1.out)
    obtain ⟨c0, c1, c2, c3, c4, c5, c6, c7⟩ := HBX1.out.c
    clear hb' HBX HDX HB
    go_wp2_with fail
    refine (right_any cl sq 2 p v ver a b w1 HP.out HM1.out).mono ?_
    rw [HR.out]
    rintro e w2 ⟨rfl, hb⟩
    have HB2 := Lib.hid (below_self HB1.out hb)
    have HBX2 := Lib.hid (HBX1.out.below hb)
    have HD2 := Lib.hid (HD1.out.below hb)
    have HM2 := Lib.hid (HM1.out.below hb)
    clear hb HBX1 HD1 HM1 c0 c1 c2 c3 c4 c5 c6 c7 HB1
    go_wp2_with fail
    refine (failed_any 1 w2).mono ?_
    rintro e w9 ⟨rfl, hb⟩
    have HB9 := Lib.hid (below_self HB2.out hb)
    have HBX9 := HBX2.out.below hb
    obtain ⟨r0, r1, r2, r3⟩ := HBX9.r
    obtain ⟨f0, f1⟩ := HBX9.f
    have z9 := HBX9.z
    clear hb HBX9 
    go_wp2
    refine bodyPost_ret (v := repV (bad 1) (.slice none 0 0)) (by simp [results, Tryz.results10, go_sem, bad, r0, r1, r2, r3, f1, show w.heap.size + 1 < w9.heap.size by omega]) rfl ?_
    rw [HE.out]
    exact AppP.bad HD.out (below4 HB9.out _ _ _ _) _ rfl
set_option maxRecDepth 100000 in
set_option maxHeartbeats 2000000 in
theorem apply_remove (d bk K : Nat) (l : List E3) (cl sq : Int) (p v : ByteArray) (ver a b : Int) (w : World) (hd : DirAt w d bk K l) (hK : K ≤ 1000000) (hp : p.size ≤ 1000) (hm : ML w) (hver : ∀ e ∈ l, 0 ≤ e.2.2 ∧ e.2.2 ≤ 4000000000000) (hr : rgt 2 p v = true) :
    Calls Tryz.prog 10 #[dP d, cmdV cl sq 2 p v ver a b] w (AppP (appD l 2 p v ver) d bk K w) := by
  have HF : Hid (Instr.findNow (.int .i64) (.int .i64 2) tabE.toList 0 = some (some (1, fnV 62))) := rfl
  have HP := Lib.hid hp
  have HM := Lib.hid hm
  have HVER := Lib.hid hver
  have HR := Lib.hid hr
  have HV : Hid (vld p = true) := Lib.hid (by have h := hr; simp only [rgt, Bool.and_eq_true] at h; exact h.1)
  have HNR : Hid (p ≠ pth []) := Lib.hid (by intro e; subst e; simp [rgt] at hr)
  obtain ⟨R, hR⟩ : ∃ R, rmD l p = R := ⟨_, rfl⟩
  have HE : Hid (appD l 2 p v ver = R) := Lib.hid (by rw [← hR]; simp [appD, hr])
  have HRR := Lib.hid hR
  clear hp hm hver hr hR
  obtain ⟨X, hX⟩ : ∃ X, box2 w cl sq 2 p v ver a b = X := ⟨_, rfl⟩
  have hB : Below w.heap.size w X := by rw [← hX]; exact box2_below ..
  have hBX : BX w.heap.size cl sq 2 p v ver a b X := by rw [← hX]; exact BX.mk0 ..
  have HD := Lib.hid hd
  have HDX := Lib.hid (hd.below hB)
  have HB := Lib.hid hB
  have HBX := Lib.hid hBX
  have HK2 := Lib.hid hBX.c.2.2.1
  have HLT : Hid ((⟨w.heap.size, 2, none⟩ : Addr).block < X.heap.size) := Lib.hid (by have := hBX.z; show w.heap.size < _; omega)
  go_enter Tryz.func10, Tryz.ntmps10
  clear hd hB hBX
  go_wp2_with fail
  go_region_held3 (fun w' => w'.cell? ⟨w.heap.size, 2, none⟩ = some (.int .i64 2) ∧ Below X.heap.size X w')
    (first
      | exact also3 (Below.refl _ _) HK2.out HLT.out
      | exact also3 (Below.refl _ _).drew HK2.out HLT.out
      | (go_split_ands; first | exact also3 (below_self (by assumption) (by assumption)) HK2.out HLT.out | exact also3 (by assumption) HK2.out HLT.out))
    (first
      | (go_at_call 35; refine (operations_any _).mono ?_; rintro e w1 ⟨b1, rfl, hb1, hb⟩; have hrun : (Instr.lookup 76 (.map (some b1)) (.int .i64 2) true).run Tryz.prog w1 = .ok (.tuple #[fnV 62, .bool true]) w1 := run_look w1 b1 hb1 2 (some (1, fnV 62)) HF.out _ zeroF; clear hb1))
  all_goals
    go_split_ands
    have hb' : Below X.heap.size X w1 := by assumption
    have HB1 := Lib.hid (below_self HB.out hb')
    have HBX1 := Lib.hid (HBX.out.below hb')
    have HD1 := Lib.hid (HDX.out.below hb')
    have HM1 := Lib.hid (HM.out.below HB1.out)
    obtain ⟨c0, c1, c2, c3, c4, c5, c6, c7⟩ := HBX1.out.c
    clear hb' HBX HDX HB
    go_wp2_with fail
    refine (right_any cl sq 2 p v ver a b w1 HP.out HM1.out).mono ?_
    rw [HR.out]
    rintro e w2 ⟨rfl, hb⟩
    have HB2 := Lib.hid (below_self HB1.out hb)
    have HBX2 := Lib.hid (HBX1.out.below hb)
    have HD2 := Lib.hid (HD1.out.below hb)
    have HM2 := Lib.hid (HM1.out.below hb)
    clear hb HBX1 HD1 HM1 c0 c1 c2 c3 c4 c5 c6 c7 HB1
    obtain ⟨c0, c1, c2, c3, c4, c5, c6, c7⟩ := HBX2.out.c
    go_wp2_with fail
    refine (remove_any d bk K l cl sq 2 p v ver a b w2 HD2.out hK HP.out HM2.out).mono ?_
    rw [HRR.out]
    rintro e w5 ⟨⟨v5, he, ho⟩, hd5, hg5⟩
    obtain ⟨a5, cc5, hv5⟩ := ho.slice
    obtain ⟨M, hM⟩ : ∃ M, (List.map Value.string R.1.names).length = M := ⟨_, rfl⟩
    rw [hM] at hv5
    subst hv5
    have he2 := he.out
    subst he2
    have HO5 := Lib.hid ho
    have HD5 := Lib.hid hd5
    have HG5 := Lib.hid hg5
    have HBX5 := HBX2.out.out hg5 HD.out.lt.2
    obtain ⟨r0, r1, r2, r3⟩ := HBX5.r
    obtain ⟨f0, f1⟩ := HBX5.f
    have z5 := HBX5.z
    clear ho hd5 hg5 HBX5 he c0 c1 c2 c3 c4 c5 c6 c7 hM
    go_wp2
    refine bodyPost_ret (v := repV R.1 (.slice a5 M cc5)) (by simp [results, Tryz.results10, go_sem, r0, r1, r2, r3, f1, show w.heap.size + 1 < w5.heap.size by omega]) rfl ?_
    rw [HE.out]
    exact AppP.store (outB HB2.out) HBX2.out.z HD.out.lt HO5.out HD5.out HG5.out _ _ _ _ _ rfl
set_option maxRecDepth 100000 in
set_option maxHeartbeats 2000000 in
theorem apply_set_bad (d bk K : Nat) (l : List E3) (cl sq : Int) (p v : ByteArray) (ver a b : Int) (w : World) (hd : DirAt w d bk K l) (hK : K ≤ 1000000) (hp : p.size ≤ 1000) (hm : ML w) (hver : ∀ e ∈ l, 0 ≤ e.2.2 ∧ e.2.2 ≤ 4000000000000) (hr : rgt 3 p v = false) :
    Calls Tryz.prog 10 #[dP d, cmdV cl sq 3 p v ver a b] w (AppP (appD l 3 p v ver) d bk K w) := by
  have HF : Hid (Instr.findNow (.int .i64) (.int .i64 3) tabE.toList 0 = some (some (2, fnV 63))) := rfl
  have HP := Lib.hid hp
  have HM := Lib.hid hm
  have HVER := Lib.hid hver
  have HR := Lib.hid hr
  have HE : Hid (appD l 3 p v ver = (bad 1, l)) := Lib.hid (by simp [appD, hr])
  clear hp hm hver hr
  obtain ⟨X, hX⟩ : ∃ X, box2 w cl sq 3 p v ver a b = X := ⟨_, rfl⟩
  have hB : Below w.heap.size w X := by rw [← hX]; exact box2_below ..
  have hBX : BX w.heap.size cl sq 3 p v ver a b X := by rw [← hX]; exact BX.mk0 ..
  have HD := Lib.hid hd
  have HDX := Lib.hid (hd.below hB)
  have HB := Lib.hid hB
  have HBX := Lib.hid hBX
  have HK2 := Lib.hid hBX.c.2.2.1
  have HLT : Hid ((⟨w.heap.size, 2, none⟩ : Addr).block < X.heap.size) := Lib.hid (by have := hBX.z; show w.heap.size < _; omega)
  go_enter Tryz.func10, Tryz.ntmps10
  clear hd hB hBX
  go_wp2_with fail
  go_region_held3 (fun w' => w'.cell? ⟨w.heap.size, 2, none⟩ = some (.int .i64 3) ∧ Below X.heap.size X w')
    (first
      | exact also3 (Below.refl _ _) HK2.out HLT.out
      | exact also3 (Below.refl _ _).drew HK2.out HLT.out
      | (go_split_ands; first | exact also3 (below_self (by assumption) (by assumption)) HK2.out HLT.out | exact also3 (by assumption) HK2.out HLT.out))
    (first
      | (go_at_call 35; refine (operations_any _).mono ?_; rintro e w1 ⟨b1, rfl, hb1, hb⟩; have hrun : (Instr.lookup 76 (.map (some b1)) (.int .i64 3) true).run Tryz.prog w1 = .ok (.tuple #[fnV 63, .bool true]) w1 := run_look w1 b1 hb1 3 (some (2, fnV 63)) HF.out _ zeroF; clear hb1))
  all_goals
    go_split_ands
    have hb' : Below X.heap.size X w1 := by assumption
    have HB1 := Lib.hid (below_self HB.out hb')
    have HBX1 := Lib.hid (HBX.out.below hb')
    have HD1 := Lib.hid (HDX.out.below hb')
    have HM1 := Lib.hid (HM.out.below HB1.out)
    obtain ⟨c0, c1, c2, c3, c4, c5, c6, c7⟩ := HBX1.out.c
    clear hb' HBX HDX HB
    go_wp2_with fail
    refine (right_any cl sq 3 p v ver a b w1 HP.out HM1.out).mono ?_
    rw [HR.out]
    rintro e w2 ⟨rfl, hb⟩
    have HB2 := Lib.hid (below_self HB1.out hb)
    have HBX2 := Lib.hid (HBX1.out.below hb)
    have HD2 := Lib.hid (HD1.out.below hb)
    have HM2 := Lib.hid (HM1.out.below hb)
    clear hb HBX1 HD1 HM1 c0 c1 c2 c3 c4 c5 c6 c7 HB1
    go_wp2_with fail
    refine (failed_any 1 w2).mono ?_
    rintro e w9 ⟨rfl, hb⟩
    have HB9 := Lib.hid (below_self HB2.out hb)
    have HBX9 := HBX2.out.below hb
    obtain ⟨r0, r1, r2, r3⟩ := HBX9.r
    obtain ⟨f0, f1⟩ := HBX9.f
    have z9 := HBX9.z
    clear hb HBX9 
    go_wp2
    refine bodyPost_ret (v := repV (bad 1) (.slice none 0 0)) (by simp [results, Tryz.results10, go_sem, bad, r0, r1, r2, r3, f1, show w.heap.size + 1 < w9.heap.size by omega]) rfl ?_
    rw [HE.out]
    exact AppP.bad HD.out (below4 HB9.out _ _ _ _) _ rfl
set_option maxRecDepth 100000 in
set_option maxHeartbeats 2000000 in
theorem apply_set (d bk K : Nat) (l : List E3) (cl sq : Int) (p v : ByteArray) (ver a b : Int) (w : World) (hd : DirAt w d bk K l) (hK : K ≤ 1000000) (hp : p.size ≤ 1000) (hm : ML w) (hver : ∀ e ∈ l, 0 ≤ e.2.2 ∧ e.2.2 ≤ 4000000000000) (hr : rgt 3 p v = true) :
    Calls Tryz.prog 10 #[dP d, cmdV cl sq 3 p v ver a b] w (AppP (appD l 3 p v ver) d bk K w) := by
  have HF : Hid (Instr.findNow (.int .i64) (.int .i64 3) tabE.toList 0 = some (some (2, fnV 63))) := rfl
  have HP := Lib.hid hp
  have HM := Lib.hid hm
  have HVER := Lib.hid hver
  have HR := Lib.hid hr
  have HV : Hid (vld p = true) := Lib.hid (by have h := hr; simp only [rgt, Bool.and_eq_true] at h; exact h.1)
  have HNR : Hid (p ≠ pth []) := Lib.hid (by intro e; subst e; simp [rgt] at hr)
  obtain ⟨R, hR⟩ : ∃ R, setD l p v = R := ⟨_, rfl⟩
  have HE : Hid (appD l 3 p v ver = R) := Lib.hid (by rw [← hR]; simp [appD, hr])
  have HRR := Lib.hid hR
  clear hp hm hver hr hR
  obtain ⟨X, hX⟩ : ∃ X, box2 w cl sq 3 p v ver a b = X := ⟨_, rfl⟩
  have hB : Below w.heap.size w X := by rw [← hX]; exact box2_below ..
  have hBX : BX w.heap.size cl sq 3 p v ver a b X := by rw [← hX]; exact BX.mk0 ..
  have HD := Lib.hid hd
  have HDX := Lib.hid (hd.below hB)
  have HB := Lib.hid hB
  have HBX := Lib.hid hBX
  have HK2 := Lib.hid hBX.c.2.2.1
  have HLT : Hid ((⟨w.heap.size, 2, none⟩ : Addr).block < X.heap.size) := Lib.hid (by have := hBX.z; show w.heap.size < _; omega)
  go_enter Tryz.func10, Tryz.ntmps10
  clear hd hB hBX
  go_wp2_with fail
  go_region_held3 (fun w' => w'.cell? ⟨w.heap.size, 2, none⟩ = some (.int .i64 3) ∧ Below X.heap.size X w')
    (first
      | exact also3 (Below.refl _ _) HK2.out HLT.out
      | exact also3 (Below.refl _ _).drew HK2.out HLT.out
      | (go_split_ands; first | exact also3 (below_self (by assumption) (by assumption)) HK2.out HLT.out | exact also3 (by assumption) HK2.out HLT.out))
    (first
      | (go_at_call 35; refine (operations_any _).mono ?_; rintro e w1 ⟨b1, rfl, hb1, hb⟩; have hrun : (Instr.lookup 76 (.map (some b1)) (.int .i64 3) true).run Tryz.prog w1 = .ok (.tuple #[fnV 63, .bool true]) w1 := run_look w1 b1 hb1 3 (some (2, fnV 63)) HF.out _ zeroF; clear hb1))
  all_goals
    go_split_ands
    have hb' : Below X.heap.size X w1 := by assumption
    have HB1 := Lib.hid (below_self HB.out hb')
    have HBX1 := Lib.hid (HBX.out.below hb')
    have HD1 := Lib.hid (HDX.out.below hb')
    have HM1 := Lib.hid (HM.out.below HB1.out)
    obtain ⟨c0, c1, c2, c3, c4, c5, c6, c7⟩ := HBX1.out.c
    clear hb' HBX HDX HB
    go_wp2_with fail
    refine (right_any cl sq 3 p v ver a b w1 HP.out HM1.out).mono ?_
    rw [HR.out]
    rintro e w2 ⟨rfl, hb⟩
    have HB2 := Lib.hid (below_self HB1.out hb)
    have HBX2 := Lib.hid (HBX1.out.below hb)
    have HD2 := Lib.hid (HD1.out.below hb)
    have HM2 := Lib.hid (HM1.out.below hb)
    clear hb HBX1 HD1 HM1 c0 c1 c2 c3 c4 c5 c6 c7 HB1
    obtain ⟨c0, c1, c2, c3, c4, c5, c6, c7⟩ := HBX2.out.c
    go_wp2_with fail
    refine (set_any d bk K l cl sq 3 p v ver a b w2 HD2.out hK HP.out HV.out HNR.out HVER.out).mono ?_
    rw [HRR.out]
    rintro e w5 ⟨⟨v5, he, ho⟩, hd5, hg5⟩
    obtain ⟨a5, cc5, hv5⟩ := ho.slice
    obtain ⟨M, hM⟩ : ∃ M, (List.map Value.string R.1.names).length = M := ⟨_, rfl⟩
    rw [hM] at hv5
    subst hv5
    have he2 := he.out
    subst he2
    have HO5 := Lib.hid ho
    have HD5 := Lib.hid hd5
    have HG5 := Lib.hid hg5
    have HBX5 := HBX2.out.out hg5 HD.out.lt.2
    obtain ⟨r0, r1, r2, r3⟩ := HBX5.r
    obtain ⟨f0, f1⟩ := HBX5.f
    have z5 := HBX5.z
    clear ho hd5 hg5 HBX5 he c0 c1 c2 c3 c4 c5 c6 c7 hM
    go_wp2
    refine bodyPost_ret (v := repV R.1 (.slice a5 M cc5)) (by simp [results, Tryz.results10, go_sem, r0, r1, r2, r3, f1, show w.heap.size + 1 < w5.heap.size by omega]) rfl ?_
    rw [HE.out]
    exact AppP.store (outB HB2.out) HBX2.out.z HD.out.lt HO5.out HD5.out HG5.out _ _ _ _ _ rfl
set_option maxRecDepth 100000 in
set_option maxHeartbeats 2000000 in
theorem apply_get_bad (d bk K : Nat) (l : List E3) (cl sq : Int) (p v : ByteArray) (ver a b : Int) (w : World) (hd : DirAt w d bk K l) (hK : K ≤ 1000000) (hp : p.size ≤ 1000) (hm : ML w) (hver : ∀ e ∈ l, 0 ≤ e.2.2 ∧ e.2.2 ≤ 4000000000000) (hr : rgt 4 p v = false) :
    Calls Tryz.prog 10 #[dP d, cmdV cl sq 4 p v ver a b] w (AppP (appD l 4 p v ver) d bk K w) := by
  have HF : Hid (Instr.findNow (.int .i64) (.int .i64 4) tabE.toList 0 = some (some (3, fnV 64))) := rfl
  have HP := Lib.hid hp
  have HM := Lib.hid hm
  have HVER := Lib.hid hver
  have HR := Lib.hid hr
  have HE : Hid (appD l 4 p v ver = (bad 1, l)) := Lib.hid (by simp [appD, hr])
  clear hp hm hver hr
  obtain ⟨X, hX⟩ : ∃ X, box2 w cl sq 4 p v ver a b = X := ⟨_, rfl⟩
  have hB : Below w.heap.size w X := by rw [← hX]; exact box2_below ..
  have hBX : BX w.heap.size cl sq 4 p v ver a b X := by rw [← hX]; exact BX.mk0 ..
  have HD := Lib.hid hd
  have HDX := Lib.hid (hd.below hB)
  have HB := Lib.hid hB
  have HBX := Lib.hid hBX
  have HK2 := Lib.hid hBX.c.2.2.1
  have HLT : Hid ((⟨w.heap.size, 2, none⟩ : Addr).block < X.heap.size) := Lib.hid (by have := hBX.z; show w.heap.size < _; omega)
  go_enter Tryz.func10, Tryz.ntmps10
  clear hd hB hBX
  go_wp2_with fail
  go_region_held3 (fun w' => w'.cell? ⟨w.heap.size, 2, none⟩ = some (.int .i64 4) ∧ Below X.heap.size X w')
    (first
      | exact also3 (Below.refl _ _) HK2.out HLT.out
      | exact also3 (Below.refl _ _).drew HK2.out HLT.out
      | (go_split_ands; first | exact also3 (below_self (by assumption) (by assumption)) HK2.out HLT.out | exact also3 (by assumption) HK2.out HLT.out))
    (first
      | (go_at_call 35; refine (operations_any _).mono ?_; rintro e w1 ⟨b1, rfl, hb1, hb⟩; have hrun : (Instr.lookup 76 (.map (some b1)) (.int .i64 4) true).run Tryz.prog w1 = .ok (.tuple #[fnV 64, .bool true]) w1 := run_look w1 b1 hb1 4 (some (3, fnV 64)) HF.out _ zeroF; clear hb1))
  all_goals
    go_split_ands
    have hb' : Below X.heap.size X w1 := by assumption
    have HB1 := Lib.hid (below_self HB.out hb')
    have HBX1 := Lib.hid (HBX.out.below hb')
    have HD1 := Lib.hid (HDX.out.below hb')
    have HM1 := Lib.hid (HM.out.below HB1.out)
    obtain ⟨c0, c1, c2, c3, c4, c5, c6, c7⟩ := HBX1.out.c
    clear hb' HBX HDX HB
    go_wp2_with fail
    refine (right_any cl sq 4 p v ver a b w1 HP.out HM1.out).mono ?_
    rw [HR.out]
    rintro e w2 ⟨rfl, hb⟩
    have HB2 := Lib.hid (below_self HB1.out hb)
    have HBX2 := Lib.hid (HBX1.out.below hb)
    have HD2 := Lib.hid (HD1.out.below hb)
    have HM2 := Lib.hid (HM1.out.below hb)
    clear hb HBX1 HD1 HM1 c0 c1 c2 c3 c4 c5 c6 c7 HB1
    go_wp2_with fail
    refine (failed_any 1 w2).mono ?_
    rintro e w9 ⟨rfl, hb⟩
    have HB9 := Lib.hid (below_self HB2.out hb)
    have HBX9 := HBX2.out.below hb
    obtain ⟨r0, r1, r2, r3⟩ := HBX9.r
    obtain ⟨f0, f1⟩ := HBX9.f
    have z9 := HBX9.z
    clear hb HBX9 
    go_wp2
    refine bodyPost_ret (v := repV (bad 1) (.slice none 0 0)) (by simp [results, Tryz.results10, go_sem, bad, r0, r1, r2, r3, f1, show w.heap.size + 1 < w9.heap.size by omega]) rfl ?_
    rw [HE.out]
    exact AppP.bad HD.out (below4 HB9.out _ _ _ _) _ rfl
set_option maxRecDepth 100000 in
set_option maxHeartbeats 2000000 in
theorem apply_get (d bk K : Nat) (l : List E3) (cl sq : Int) (p v : ByteArray) (ver a b : Int) (w : World) (hd : DirAt w d bk K l) (hK : K ≤ 1000000) (hp : p.size ≤ 1000) (hm : ML w) (hver : ∀ e ∈ l, 0 ≤ e.2.2 ∧ e.2.2 ≤ 4000000000000) (hr : rgt 4 p v = true) :
    Calls Tryz.prog 10 #[dP d, cmdV cl sq 4 p v ver a b] w (AppP (appD l 4 p v ver) d bk K w) := by
  have HF : Hid (Instr.findNow (.int .i64) (.int .i64 4) tabE.toList 0 = some (some (3, fnV 64))) := rfl
  have HP := Lib.hid hp
  have HM := Lib.hid hm
  have HVER := Lib.hid hver
  have HR := Lib.hid hr
  have HV : Hid (vld p = true) := Lib.hid (by have h := hr; simp only [rgt, Bool.and_eq_true] at h; exact h.1)
  obtain ⟨R, hR⟩ : ∃ R, gtD l p = R := ⟨_, rfl⟩
  have HE : Hid (appD l 4 p v ver = R) := Lib.hid (by rw [← hR]; simp [appD, hr])
  have HRR := Lib.hid hR
  clear hp hm hver hr hR
  obtain ⟨X, hX⟩ : ∃ X, box2 w cl sq 4 p v ver a b = X := ⟨_, rfl⟩
  have hB : Below w.heap.size w X := by rw [← hX]; exact box2_below ..
  have hBX : BX w.heap.size cl sq 4 p v ver a b X := by rw [← hX]; exact BX.mk0 ..
  have HD := Lib.hid hd
  have HDX := Lib.hid (hd.below hB)
  have HB := Lib.hid hB
  have HBX := Lib.hid hBX
  have HK2 := Lib.hid hBX.c.2.2.1
  have HLT : Hid ((⟨w.heap.size, 2, none⟩ : Addr).block < X.heap.size) := Lib.hid (by have := hBX.z; show w.heap.size < _; omega)
  go_enter Tryz.func10, Tryz.ntmps10
  clear hd hB hBX
  go_wp2_with fail
  go_region_held3 (fun w' => w'.cell? ⟨w.heap.size, 2, none⟩ = some (.int .i64 4) ∧ Below X.heap.size X w')
    (first
      | exact also3 (Below.refl _ _) HK2.out HLT.out
      | exact also3 (Below.refl _ _).drew HK2.out HLT.out
      | (go_split_ands; first | exact also3 (below_self (by assumption) (by assumption)) HK2.out HLT.out | exact also3 (by assumption) HK2.out HLT.out))
    (first
      | (go_at_call 35; refine (operations_any _).mono ?_; rintro e w1 ⟨b1, rfl, hb1, hb⟩; have hrun : (Instr.lookup 76 (.map (some b1)) (.int .i64 4) true).run Tryz.prog w1 = .ok (.tuple #[fnV 64, .bool true]) w1 := run_look w1 b1 hb1 4 (some (3, fnV 64)) HF.out _ zeroF; clear hb1))
  all_goals
    go_split_ands
    have hb' : Below X.heap.size X w1 := by assumption
    have HB1 := Lib.hid (below_self HB.out hb')
    have HBX1 := Lib.hid (HBX.out.below hb')
    have HD1 := Lib.hid (HDX.out.below hb')
    have HM1 := Lib.hid (HM.out.below HB1.out)
    obtain ⟨c0, c1, c2, c3, c4, c5, c6, c7⟩ := HBX1.out.c
    clear hb' HBX HDX HB
    go_wp2_with fail
    refine (right_any cl sq 4 p v ver a b w1 HP.out HM1.out).mono ?_
    rw [HR.out]
    rintro e w2 ⟨rfl, hb⟩
    have HB2 := Lib.hid (below_self HB1.out hb)
    have HBX2 := Lib.hid (HBX1.out.below hb)
    have HD2 := Lib.hid (HD1.out.below hb)
    have HM2 := Lib.hid (HM1.out.below hb)
    clear hb HBX1 HD1 HM1 c0 c1 c2 c3 c4 c5 c6 c7 HB1
    obtain ⟨c0, c1, c2, c3, c4, c5, c6, c7⟩ := HBX2.out.c
    go_wp2_with fail
    refine (get_any d bk K l cl sq 4 p v ver a b w2 HD2.out HP.out).mono ?_
    rw [HRR.out]
    rintro e w5 ⟨⟨v5, he, ho⟩, hd5, hg5⟩
    obtain ⟨a5, cc5, hv5⟩ := ho.slice
    obtain ⟨M, hM⟩ : ∃ M, (List.map Value.string R.1.names).length = M := ⟨_, rfl⟩
    rw [hM] at hv5
    subst hv5
    have he2 := he.out
    subst he2
    have HO5 := Lib.hid ho
    have HD5 := Lib.hid hd5
    have HG5 := Lib.hid hg5
    have HBX5 := HBX2.out.out hg5 HD.out.lt.2
    obtain ⟨r0, r1, r2, r3⟩ := HBX5.r
    obtain ⟨f0, f1⟩ := HBX5.f
    have z5 := HBX5.z
    clear ho hd5 hg5 HBX5 he c0 c1 c2 c3 c4 c5 c6 c7 hM
    go_wp2
    refine bodyPost_ret (v := repV R.1 (.slice a5 M cc5)) (by simp [results, Tryz.results10, go_sem, r0, r1, r2, r3, f1, show w.heap.size + 1 < w5.heap.size by omega]) rfl ?_
    rw [HE.out]
    exact AppP.store (outB HB2.out) HBX2.out.z HD.out.lt HO5.out HD5.out HG5.out _ _ _ _ _ rfl
set_option maxRecDepth 100000 in
set_option maxHeartbeats 2000000 in
theorem apply_list_bad (d bk K : Nat) (l : List E3) (cl sq : Int) (p v : ByteArray) (ver a b : Int) (w : World) (hd : DirAt w d bk K l) (hK : K ≤ 1000000) (hp : p.size ≤ 1000) (hm : ML w) (hver : ∀ e ∈ l, 0 ≤ e.2.2 ∧ e.2.2 ≤ 4000000000000) (hr : rgt 5 p v = false) :
    Calls Tryz.prog 10 #[dP d, cmdV cl sq 5 p v ver a b] w (AppP (appD l 5 p v ver) d bk K w) := by
  have HF : Hid (Instr.findNow (.int .i64) (.int .i64 5) tabE.toList 0 = some (some (4, fnV 65))) := rfl
  have HP := Lib.hid hp
  have HM := Lib.hid hm
  have HVER := Lib.hid hver
  have HR := Lib.hid hr
  have HE : Hid (appD l 5 p v ver = (bad 1, l)) := Lib.hid (by simp [appD, hr])
  clear hp hm hver hr
  obtain ⟨X, hX⟩ : ∃ X, box2 w cl sq 5 p v ver a b = X := ⟨_, rfl⟩
  have hB : Below w.heap.size w X := by rw [← hX]; exact box2_below ..
  have hBX : BX w.heap.size cl sq 5 p v ver a b X := by rw [← hX]; exact BX.mk0 ..
  have HD := Lib.hid hd
  have HDX := Lib.hid (hd.below hB)
  have HB := Lib.hid hB
  have HBX := Lib.hid hBX
  have HK2 := Lib.hid hBX.c.2.2.1
  have HLT : Hid ((⟨w.heap.size, 2, none⟩ : Addr).block < X.heap.size) := Lib.hid (by have := hBX.z; show w.heap.size < _; omega)
  go_enter Tryz.func10, Tryz.ntmps10
  clear hd hB hBX
  go_wp2_with fail
  go_region_held3 (fun w' => w'.cell? ⟨w.heap.size, 2, none⟩ = some (.int .i64 5) ∧ Below X.heap.size X w')
    (first
      | exact also3 (Below.refl _ _) HK2.out HLT.out
      | exact also3 (Below.refl _ _).drew HK2.out HLT.out
      | (go_split_ands; first | exact also3 (below_self (by assumption) (by assumption)) HK2.out HLT.out | exact also3 (by assumption) HK2.out HLT.out))
    (first
      | (go_at_call 35; refine (operations_any _).mono ?_; rintro e w1 ⟨b1, rfl, hb1, hb⟩; have hrun : (Instr.lookup 76 (.map (some b1)) (.int .i64 5) true).run Tryz.prog w1 = .ok (.tuple #[fnV 65, .bool true]) w1 := run_look w1 b1 hb1 5 (some (4, fnV 65)) HF.out _ zeroF; clear hb1))
  all_goals
    go_split_ands
    have hb' : Below X.heap.size X w1 := by assumption
    have HB1 := Lib.hid (below_self HB.out hb')
    have HBX1 := Lib.hid (HBX.out.below hb')
    have HD1 := Lib.hid (HDX.out.below hb')
    have HM1 := Lib.hid (HM.out.below HB1.out)
    obtain ⟨c0, c1, c2, c3, c4, c5, c6, c7⟩ := HBX1.out.c
    clear hb' HBX HDX HB
    go_wp2_with fail
    refine (right_any cl sq 5 p v ver a b w1 HP.out HM1.out).mono ?_
    rw [HR.out]
    rintro e w2 ⟨rfl, hb⟩
    have HB2 := Lib.hid (below_self HB1.out hb)
    have HBX2 := Lib.hid (HBX1.out.below hb)
    have HD2 := Lib.hid (HD1.out.below hb)
    have HM2 := Lib.hid (HM1.out.below hb)
    clear hb HBX1 HD1 HM1 c0 c1 c2 c3 c4 c5 c6 c7 HB1
    go_wp2_with fail
    refine (failed_any 1 w2).mono ?_
    rintro e w9 ⟨rfl, hb⟩
    have HB9 := Lib.hid (below_self HB2.out hb)
    have HBX9 := HBX2.out.below hb
    obtain ⟨r0, r1, r2, r3⟩ := HBX9.r
    obtain ⟨f0, f1⟩ := HBX9.f
    have z9 := HBX9.z
    clear hb HBX9 
    go_wp2
    refine bodyPost_ret (v := repV (bad 1) (.slice none 0 0)) (by simp [results, Tryz.results10, go_sem, bad, r0, r1, r2, r3, f1, show w.heap.size + 1 < w9.heap.size by omega]) rfl ?_
    rw [HE.out]
    exact AppP.bad HD.out (below4 HB9.out _ _ _ _) _ rfl
set_option maxRecDepth 100000 in
set_option maxHeartbeats 2000000 in
theorem apply_list (d bk K : Nat) (l : List E3) (cl sq : Int) (p v : ByteArray) (ver a b : Int) (w : World) (hd : DirAt w d bk K l) (hK : K ≤ 1000000) (hp : p.size ≤ 1000) (hm : ML w) (hver : ∀ e ∈ l, 0 ≤ e.2.2 ∧ e.2.2 ≤ 4000000000000) (hr : rgt 5 p v = true) :
    Calls Tryz.prog 10 #[dP d, cmdV cl sq 5 p v ver a b] w (AppP (appD l 5 p v ver) d bk K w) := by
  have HF : Hid (Instr.findNow (.int .i64) (.int .i64 5) tabE.toList 0 = some (some (4, fnV 65))) := rfl
  have HP := Lib.hid hp
  have HM := Lib.hid hm
  have HVER := Lib.hid hver
  have HR := Lib.hid hr
  have HV : Hid (vld p = true) := Lib.hid (by have h := hr; simp only [rgt, Bool.and_eq_true] at h; exact h.1)
  obtain ⟨R, hR⟩ : ∃ R, lsD l p = R := ⟨_, rfl⟩
  have HE : Hid (appD l 5 p v ver = R) := Lib.hid (by rw [← hR]; simp [appD, hr])
  have HRR := Lib.hid hR
  clear hp hm hver hr hR
  obtain ⟨X, hX⟩ : ∃ X, box2 w cl sq 5 p v ver a b = X := ⟨_, rfl⟩
  have hB : Below w.heap.size w X := by rw [← hX]; exact box2_below ..
  have hBX : BX w.heap.size cl sq 5 p v ver a b X := by rw [← hX]; exact BX.mk0 ..
  have HD := Lib.hid hd
  have HDX := Lib.hid (hd.below hB)
  have HB := Lib.hid hB
  have HBX := Lib.hid hBX
  have HK2 := Lib.hid hBX.c.2.2.1
  have HLT : Hid ((⟨w.heap.size, 2, none⟩ : Addr).block < X.heap.size) := Lib.hid (by have := hBX.z; show w.heap.size < _; omega)
  go_enter Tryz.func10, Tryz.ntmps10
  clear hd hB hBX
  go_wp2_with fail
  go_region_held3 (fun w' => w'.cell? ⟨w.heap.size, 2, none⟩ = some (.int .i64 5) ∧ Below X.heap.size X w')
    (first
      | exact also3 (Below.refl _ _) HK2.out HLT.out
      | exact also3 (Below.refl _ _).drew HK2.out HLT.out
      | (go_split_ands; first | exact also3 (below_self (by assumption) (by assumption)) HK2.out HLT.out | exact also3 (by assumption) HK2.out HLT.out))
    (first
      | (go_at_call 35; refine (operations_any _).mono ?_; rintro e w1 ⟨b1, rfl, hb1, hb⟩; have hrun : (Instr.lookup 76 (.map (some b1)) (.int .i64 5) true).run Tryz.prog w1 = .ok (.tuple #[fnV 65, .bool true]) w1 := run_look w1 b1 hb1 5 (some (4, fnV 65)) HF.out _ zeroF; clear hb1))
  all_goals
    go_split_ands
    have hb' : Below X.heap.size X w1 := by assumption
    have HB1 := Lib.hid (below_self HB.out hb')
    have HBX1 := Lib.hid (HBX.out.below hb')
    have HD1 := Lib.hid (HDX.out.below hb')
    have HM1 := Lib.hid (HM.out.below HB1.out)
    obtain ⟨c0, c1, c2, c3, c4, c5, c6, c7⟩ := HBX1.out.c
    clear hb' HBX HDX HB
    go_wp2_with fail
    refine (right_any cl sq 5 p v ver a b w1 HP.out HM1.out).mono ?_
    rw [HR.out]
    rintro e w2 ⟨rfl, hb⟩
    have HB2 := Lib.hid (below_self HB1.out hb)
    have HBX2 := Lib.hid (HBX1.out.below hb)
    have HD2 := Lib.hid (HD1.out.below hb)
    have HM2 := Lib.hid (HM1.out.below hb)
    clear hb HBX1 HD1 HM1 c0 c1 c2 c3 c4 c5 c6 c7 HB1
    obtain ⟨c0, c1, c2, c3, c4, c5, c6, c7⟩ := HBX2.out.c
    go_wp2_with fail
    refine (list_any d bk K l cl sq 5 p v ver a b w2 HD2.out hK HP.out HM2.out).mono ?_
    rw [HRR.out]
    rintro e w5 ⟨⟨v5, he, ho⟩, hd5, hg5⟩
    obtain ⟨a5, cc5, hv5⟩ := ho.slice
    obtain ⟨M, hM⟩ : ∃ M, (List.map Value.string R.1.names).length = M := ⟨_, rfl⟩
    rw [hM] at hv5
    subst hv5
    have he2 := he.out
    subst he2
    have HO5 := Lib.hid ho
    have HD5 := Lib.hid hd5
    have HG5 := Lib.hid hg5
    have HBX5 := HBX2.out.out hg5 HD.out.lt.2
    obtain ⟨r0, r1, r2, r3⟩ := HBX5.r
    obtain ⟨f0, f1⟩ := HBX5.f
    have z5 := HBX5.z
    clear ho hd5 hg5 HBX5 he c0 c1 c2 c3 c4 c5 c6 c7 hM
    go_wp2
    refine bodyPost_ret (v := repV R.1 (.slice a5 M cc5)) (by simp [results, Tryz.results10, go_sem, r0, r1, r2, r3, f1, show w.heap.size + 1 < w5.heap.size by omega]) rfl ?_
    rw [HE.out]
    exact AppP.store (outB HB2.out) HBX2.out.z HD.out.lt HO5.out HD5.out HG5.out _ _ _ _ _ rfl
set_option maxRecDepth 100000 in
set_option maxHeartbeats 2000000 in
theorem apply_cas_bad (d bk K : Nat) (l : List E3) (cl sq : Int) (p v : ByteArray) (ver a b : Int) (w : World) (hd : DirAt w d bk K l) (hK : K ≤ 1000000) (hp : p.size ≤ 1000) (hm : ML w) (hver : ∀ e ∈ l, 0 ≤ e.2.2 ∧ e.2.2 ≤ 4000000000000) (hr : rgt 6 p v = false) :
    Calls Tryz.prog 10 #[dP d, cmdV cl sq 6 p v ver a b] w (AppP (appD l 6 p v ver) d bk K w) := by
  have HF : Hid (Instr.findNow (.int .i64) (.int .i64 6) tabE.toList 0 = some (some (5, fnV 66))) := rfl
  have HP := Lib.hid hp
  have HM := Lib.hid hm
  have HVER := Lib.hid hver
  have HR := Lib.hid hr
  have HE : Hid (appD l 6 p v ver = (bad 1, l)) := Lib.hid (by simp [appD, hr])
  clear hp hm hver hr
  obtain ⟨X, hX⟩ : ∃ X, box2 w cl sq 6 p v ver a b = X := ⟨_, rfl⟩
  have hB : Below w.heap.size w X := by rw [← hX]; exact box2_below ..
  have hBX : BX w.heap.size cl sq 6 p v ver a b X := by rw [← hX]; exact BX.mk0 ..
  have HD := Lib.hid hd
  have HDX := Lib.hid (hd.below hB)
  have HB := Lib.hid hB
  have HBX := Lib.hid hBX
  have HK2 := Lib.hid hBX.c.2.2.1
  have HLT : Hid ((⟨w.heap.size, 2, none⟩ : Addr).block < X.heap.size) := Lib.hid (by have := hBX.z; show w.heap.size < _; omega)
  go_enter Tryz.func10, Tryz.ntmps10
  clear hd hB hBX
  go_wp2_with fail
  go_region_held3 (fun w' => w'.cell? ⟨w.heap.size, 2, none⟩ = some (.int .i64 6) ∧ Below X.heap.size X w')
    (first
      | exact also3 (Below.refl _ _) HK2.out HLT.out
      | exact also3 (Below.refl _ _).drew HK2.out HLT.out
      | (go_split_ands; first | exact also3 (below_self (by assumption) (by assumption)) HK2.out HLT.out | exact also3 (by assumption) HK2.out HLT.out))
    (first
      | (go_at_call 35; refine (operations_any _).mono ?_; rintro e w1 ⟨b1, rfl, hb1, hb⟩; have hrun : (Instr.lookup 76 (.map (some b1)) (.int .i64 6) true).run Tryz.prog w1 = .ok (.tuple #[fnV 66, .bool true]) w1 := run_look w1 b1 hb1 6 (some (5, fnV 66)) HF.out _ zeroF; clear hb1))
  all_goals
    go_split_ands
    have hb' : Below X.heap.size X w1 := by assumption
    have HB1 := Lib.hid (below_self HB.out hb')
    have HBX1 := Lib.hid (HBX.out.below hb')
    have HD1 := Lib.hid (HDX.out.below hb')
    have HM1 := Lib.hid (HM.out.below HB1.out)
    obtain ⟨c0, c1, c2, c3, c4, c5, c6, c7⟩ := HBX1.out.c
    clear hb' HBX HDX HB
    go_wp2_with fail
    refine (right_any cl sq 6 p v ver a b w1 HP.out HM1.out).mono ?_
    rw [HR.out]
    rintro e w2 ⟨rfl, hb⟩
    have HB2 := Lib.hid (below_self HB1.out hb)
    have HBX2 := Lib.hid (HBX1.out.below hb)
    have HD2 := Lib.hid (HD1.out.below hb)
    have HM2 := Lib.hid (HM1.out.below hb)
    clear hb HBX1 HD1 HM1 c0 c1 c2 c3 c4 c5 c6 c7 HB1
    go_wp2_with fail
    refine (failed_any 1 w2).mono ?_
    rintro e w9 ⟨rfl, hb⟩
    have HB9 := Lib.hid (below_self HB2.out hb)
    have HBX9 := HBX2.out.below hb
    obtain ⟨r0, r1, r2, r3⟩ := HBX9.r
    obtain ⟨f0, f1⟩ := HBX9.f
    have z9 := HBX9.z
    clear hb HBX9 
    go_wp2
    refine bodyPost_ret (v := repV (bad 1) (.slice none 0 0)) (by simp [results, Tryz.results10, go_sem, bad, r0, r1, r2, r3, f1, show w.heap.size + 1 < w9.heap.size by omega]) rfl ?_
    rw [HE.out]
    exact AppP.bad HD.out (below4 HB9.out _ _ _ _) _ rfl
set_option maxRecDepth 100000 in
set_option maxHeartbeats 2000000 in
theorem apply_cas (d bk K : Nat) (l : List E3) (cl sq : Int) (p v : ByteArray) (ver a b : Int) (w : World) (hd : DirAt w d bk K l) (hK : K ≤ 1000000) (hp : p.size ≤ 1000) (hm : ML w) (hver : ∀ e ∈ l, 0 ≤ e.2.2 ∧ e.2.2 ≤ 4000000000000) (hr : rgt 6 p v = true) :
    Calls Tryz.prog 10 #[dP d, cmdV cl sq 6 p v ver a b] w (AppP (appD l 6 p v ver) d bk K w) := by
  have HF : Hid (Instr.findNow (.int .i64) (.int .i64 6) tabE.toList 0 = some (some (5, fnV 66))) := rfl
  have HP := Lib.hid hp
  have HM := Lib.hid hm
  have HVER := Lib.hid hver
  have HR := Lib.hid hr
  have HV : Hid (vld p = true) := Lib.hid (by have h := hr; simp only [rgt, Bool.and_eq_true] at h; exact h.1)
  have HNR : Hid (p ≠ pth []) := Lib.hid (by intro e; subst e; simp [rgt] at hr)
  obtain ⟨R, hR⟩ : ∃ R, casD l p v ver = R := ⟨_, rfl⟩
  have HE : Hid (appD l 6 p v ver = R) := Lib.hid (by rw [← hR]; simp [appD, hr])
  have HRR := Lib.hid hR
  clear hp hm hver hr hR
  obtain ⟨X, hX⟩ : ∃ X, box2 w cl sq 6 p v ver a b = X := ⟨_, rfl⟩
  have hB : Below w.heap.size w X := by rw [← hX]; exact box2_below ..
  have hBX : BX w.heap.size cl sq 6 p v ver a b X := by rw [← hX]; exact BX.mk0 ..
  have HD := Lib.hid hd
  have HDX := Lib.hid (hd.below hB)
  have HB := Lib.hid hB
  have HBX := Lib.hid hBX
  have HK2 := Lib.hid hBX.c.2.2.1
  have HLT : Hid ((⟨w.heap.size, 2, none⟩ : Addr).block < X.heap.size) := Lib.hid (by have := hBX.z; show w.heap.size < _; omega)
  go_enter Tryz.func10, Tryz.ntmps10
  clear hd hB hBX
  go_wp2_with fail
  go_region_held3 (fun w' => w'.cell? ⟨w.heap.size, 2, none⟩ = some (.int .i64 6) ∧ Below X.heap.size X w')
    (first
      | exact also3 (Below.refl _ _) HK2.out HLT.out
      | exact also3 (Below.refl _ _).drew HK2.out HLT.out
      | (go_split_ands; first | exact also3 (below_self (by assumption) (by assumption)) HK2.out HLT.out | exact also3 (by assumption) HK2.out HLT.out))
    (first
      | (go_at_call 35; refine (operations_any _).mono ?_; rintro e w1 ⟨b1, rfl, hb1, hb⟩; have hrun : (Instr.lookup 76 (.map (some b1)) (.int .i64 6) true).run Tryz.prog w1 = .ok (.tuple #[fnV 66, .bool true]) w1 := run_look w1 b1 hb1 6 (some (5, fnV 66)) HF.out _ zeroF; clear hb1))
  all_goals
    go_split_ands
    have hb' : Below X.heap.size X w1 := by assumption
    have HB1 := Lib.hid (below_self HB.out hb')
    have HBX1 := Lib.hid (HBX.out.below hb')
    have HD1 := Lib.hid (HDX.out.below hb')
    have HM1 := Lib.hid (HM.out.below HB1.out)
    obtain ⟨c0, c1, c2, c3, c4, c5, c6, c7⟩ := HBX1.out.c
    clear hb' HBX HDX HB
    go_wp2_with fail
    refine (right_any cl sq 6 p v ver a b w1 HP.out HM1.out).mono ?_
    rw [HR.out]
    rintro e w2 ⟨rfl, hb⟩
    have HB2 := Lib.hid (below_self HB1.out hb)
    have HBX2 := Lib.hid (HBX1.out.below hb)
    have HD2 := Lib.hid (HD1.out.below hb)
    have HM2 := Lib.hid (HM1.out.below hb)
    clear hb HBX1 HD1 HM1 c0 c1 c2 c3 c4 c5 c6 c7 HB1
    obtain ⟨c0, c1, c2, c3, c4, c5, c6, c7⟩ := HBX2.out.c
    go_wp2_with fail
    refine (cas_any d bk K l cl sq 6 p v ver a b w2 HD2.out hK HP.out HV.out HNR.out HVER.out).mono ?_
    rw [HRR.out]
    rintro e w5 ⟨⟨v5, he, ho⟩, hd5, hg5⟩
    obtain ⟨a5, cc5, hv5⟩ := ho.slice
    obtain ⟨M, hM⟩ : ∃ M, (List.map Value.string R.1.names).length = M := ⟨_, rfl⟩
    rw [hM] at hv5
    subst hv5
    have he2 := he.out
    subst he2
    have HO5 := Lib.hid ho
    have HD5 := Lib.hid hd5
    have HG5 := Lib.hid hg5
    have HBX5 := HBX2.out.out hg5 HD.out.lt.2
    obtain ⟨r0, r1, r2, r3⟩ := HBX5.r
    obtain ⟨f0, f1⟩ := HBX5.f
    have z5 := HBX5.z
    clear ho hd5 hg5 HBX5 he c0 c1 c2 c3 c4 c5 c6 c7 hM
    go_wp2
    refine bodyPost_ret (v := repV R.1 (.slice a5 M cc5)) (by simp [results, Tryz.results10, go_sem, r0, r1, r2, r3, f1, show w.heap.size + 1 < w5.heap.size by omega]) rfl ?_
    rw [HE.out]
    exact AppP.store (outB HB2.out) HBX2.out.z HD.out.lt HO5.out HD5.out HG5.out _ _ _ _ _ rfl
theorem apply_any (d bk K : Nat) (l : List E3) (cl sq op : Int) (p v : ByteArray) (ver a b : Int) (w : World) (hd : DirAt w d bk K l) (hK : K ≤ 1000000) (hp : p.size ≤ 1000) (hm : ML w) (hver : ∀ e ∈ l, 0 ≤ e.2.2 ∧ e.2.2 ≤ 4000000000000) :
    Calls Tryz.prog 10 #[dP d, cmdV cl sq op p v ver a b] w (AppP (appD l op p v ver) d bk K w) := by
  by_cases e1 : op = 1
  · subst e1
    cases hr : rgt 1 p v with
    | false => exact apply_create_bad d bk K l cl sq p v ver a b w hd hK hp hm hver hr
    | true => exact apply_create d bk K l cl sq p v ver a b w hd hK hp hm hver hr
  by_cases e2 : op = 2
  · subst e2
    cases hr : rgt 2 p v with
    | false => exact apply_remove_bad d bk K l cl sq p v ver a b w hd hK hp hm hver hr
    | true => exact apply_remove d bk K l cl sq p v ver a b w hd hK hp hm hver hr
  by_cases e3 : op = 3
  · subst e3
    cases hr : rgt 3 p v with
    | false => exact apply_set_bad d bk K l cl sq p v ver a b w hd hK hp hm hver hr
    | true => exact apply_set d bk K l cl sq p v ver a b w hd hK hp hm hver hr
  by_cases e4 : op = 4
  · subst e4
    cases hr : rgt 4 p v with
    | false => exact apply_get_bad d bk K l cl sq p v ver a b w hd hK hp hm hver hr
    | true => exact apply_get d bk K l cl sq p v ver a b w hd hK hp hm hver hr
  by_cases e5 : op = 5
  · subst e5
    cases hr : rgt 5 p v with
    | false => exact apply_list_bad d bk K l cl sq p v ver a b w hd hK hp hm hver hr
    | true => exact apply_list d bk K l cl sq p v ver a b w hd hK hp hm hver hr
  by_cases e6 : op = 6
  · subst e6
    cases hr : rgt 6 p v with
    | false => exact apply_cas_bad d bk K l cl sq p v ver a b w hd hK hp hm hver hr
    | true => exact apply_cas d bk K l cl sq p v ver a b w hd hK hp hm hver hr
  · exact apply_none d bk K l cl sq op p v ver a b w hd (fun k h1 h6 => by intro e; omega)
end Go.Proofs.YtodcmhmankmaoaaGreat
