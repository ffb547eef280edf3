/-
  Package code: a message as bytes.
-/
import Derived.Test.YtllcmapgigfgoaaCdX4
import Derived.Test.YtllcmapgigfgoaaCd6
namespace Go.Proofs.Ytllcmapgigfgoaa
open Go.RowKit
set_option linter.unusedSimpArgs false
set_option linter.unusedVariables false

def VNP (w : World) (e : Ending) (w' : World) : Prop := Hid (e = .returned (.pointer (some ⟨w.heap.size, 0, none⟩))) ∧ WrV w' w.heap.size w.heap.size (.slice none 0 0) [] false ∧ Below w.heap.size w w' ∧ w'.heap.size = w.heap.size + 1
theorem vnew_any (w : World) : Calls Try.prog 50 #[] w (VNP w) := by
  go_enter Try.func50, Try.ntmps50
  go_wp2
  go_ret
  exact ⟨rfl, ⟨by simp, Nat.le_refl _, by simp [go_sem], by simp [go_sem], by simp [go_sem], by simp [go_sem], Own8.nil _ _, (fun k hk => by cases hk), ⟨_, _, heap_alloc_new w _⟩⟩, (Below.refl _ _).alloc (Nat.le_refl _) _, by simp⟩
/-- What a thing's bytes are, or that there are none. -/
def ByP (l : List Fd) (w : World) (e : Ending) (w' : World) : Prop := (Oks l ∧ ∃ u, Hid (e = .returned (.tuple #[u, .int .i64 0])) ∧ Own8 w' w.heap.size u (eF l) ∧ Below w.heap.size w w') ∨ (¬ Oks l ∧ Hid (e = .returned (.tuple #[.slice none 0 0, .int .i64 1])) ∧ Below w.heap.size w w')
theorem Own8.base {w : World} {b b2 : Nat} {v : Value} {xs : List Int} (h : Own8 w b v xs) (hb : b2 ≤ b) : Own8 w b2 v xs := h.le hb
def WUP (B b c : Nat) (st : Option (List Int)) (w : World) (e : Ending) (w' : World) : Prop := ∃ u, Hid (e = .returned u) ∧ WO w' B b c st ∧ Ft B b c w w'
theorem w_msgI (B b c : Nat) (cs : Array Value) (x : Msg7) (st : Option (List Int)) (K : Nat) (W w : World) (h : WO w B b c st) (hW : Below W.heap.size W w) (hWB : W.heap.size ≤ B) (hK : Sh K st) (hk : K + 1061915 ≤ 20000000) (hs : msS.is W cs.toList x) :
    Calls Try.prog 27 #[fW c, .agg cs] w (WUP B b c (wrs st (msC.fs x)) w) := by
  obtain ⟨a22, m22, c22, rs22, a24, m24, c24, rs24, a25, m25, c25, rs25, a26, m26, c26, rs26, hcs, hs16, hs17, hr22, hr24, hr25, hr26⟩ := ms_is hs
  obtain ⟨n0, n1, n2, ⟨n3, n4, n5⟩, ⟨n6, n7⟩, ⟨n8, ⟨n9, n10⟩, ⟨n11, n12⟩, ⟨n13, n14, n15, n16, n17, n18, n19, n20⟩, n21, l22⟩, ⟨n23, l24⟩, l25, l26⟩ := x
  obtain rfl : cs = #[.int .i64 n0, .int .i64 n1, .int .i64 n2, .int .i64 n3, .int .i64 n4, .int .i64 n5, .int .i64 n6, .int .i64 n7, .int .i64 n8, .int .i64 n9, .int .i64 n10, .int .i64 n11, .int .i64 n12, .int .i64 n13, .int .i64 n14, .int .i64 n15, .string n16, .string n17, .int .i64 n18, .int .i64 n19, .int .i64 n20, .int .i64 n21, .slice a22 m22 c22, .int .i64 n23, .slice a24 m24 c24, .slice a25 m25 c25, .slice a26 m26 c26] := by
    cases cs
    simpa [msV, inV, snV] using hcs
  simp only at hs16 hs17 hr22 hr24 hr25 hr26
  unfold maxLen at hs16 hs17
  have hs16 : n16.size ≤ 9223372036854775807 := by omega
  have hs17 : n17.size ≤ 9223372036854775807 := by omega
  refine (w_msg B b c n0 n1 n2 n3 n4 n5 n6 n7 n8 n9 n10 n11 n12 n13 n14 n15 n16 n17 n18 n19 n20 n21 a22 m22 c22 n23 a24 m24 c24 a25 m25 c25 a26 m26 c26 rs22 l22 rs24 l24 rs25 l25 rs26 l26 _ _ K W w h hW hWB rfl hK hk hs16 hs17 hr22 hr24 hr25 hr26).mono ?_
  rintro e w2 ⟨b22, d22, f22, b24, d24, f24, b25, d25, f25, b26, d26, f26, he, h1, h2⟩
  exact ⟨_, he, h1, h2⟩
theorem ms_size {W : World} {cs : Array Value} {x : Msg7} (h : msS.is W cs.toList x) : cs.size = 27 := by
  obtain ⟨a22, m22, c22, rs22, a24, m24, c24, rs24, a25, m25, c25, rs25, a26, m26, c26, rs26, hcs, _⟩ := ms_is h
  have := congrArg List.length hcs
  simpa [msV, inV, snV] using this
theorem bka_new (w : World) (T : TypeId) (cs : Array Value) : (w.alloc (.cells cs T)).heap[w.heap.size]? = some (.cells cs T (0, 0)) := heap_alloc_new w _
set_option maxRecDepth 100000 in
set_option maxHeartbeats 4000000 in
theorem written_msg (v : Value) (x : Msg7) (w : World) (h : MsgIs w v x) :
    Calls Try.prog 26 #[v, .func (.func 27) #[] #[]] w (ByP (msC.fs x) w) := by
  obtain ⟨cs, rfl, hs⟩ := h
  have HI : Hid ((Try.prog.info? 44).map (·.size) = some cs.size) := Lib.hid (by rw [ms_size hs]; kernel_rfl)
  have HM := Lib.hid hs
  have HX := Lib.hid (bka_new w 44 cs)
  clear hs
  go_enter Try.func26, Try.ntmps26
  go_wp2_with fail
  refine (vnew_any _).mono ?_
  rintro e w1 ⟨he, h1, h2, h3⟩
  rw [he.out]
  clear he
  have hz : (w.alloc (.cells cs 44)).heap.size = w.heap.size + 1 := by simp
  rw [hz] at h1 h2 h3 ⊢
  clear hz
  have HZ := Lib.hid h3
  have hX1 : w1.heap[w.heap.size]? = some (.cells cs 44 (0, 0)) := (h2.block _ (by omega)).trans HX.out
  have HX2 : Hid ((w1.alloc (.cells #[.pointer (some ⟨w.heap.size + 1, 0, none⟩)] 120)).heap[w.heap.size]? = some (.cells cs 44 (0, 0))) := Lib.hid ((Below.heap_alloc _ _ _ (by omega)).trans hX1)
  have HC := Lib.hid (Bk.new w1 120 [.pointer (some ⟨w.heap.size + 1, 0, none⟩)])
  have HO : Hid (WO (w1.alloc (.cells #[.pointer (some ⟨w.heap.size + 1, 0, none⟩)] 120)) (w.heap.size + 1) (w.heap.size + 1) w1.heap.size (some [])) := Lib.hid ⟨⟨_, h1.below ((Below.refl _ _).alloc (Nat.le_refl _) _)⟩, HC.out, by omega, by omega⟩
  have HB := Lib.hid (show Below w.heap.size w (w1.alloc (.cells #[.pointer (some ⟨w.heap.size + 1, 0, none⟩)] 120)) from (((Below.refl _ _).alloc (Nat.le_refl _) _).trans (h2.mono (by omega))).alloc (by omega) _)
  have HK : Hid (Sh 0 (some [])) := Lib.hid (by simp [Sh, stl])
  have HWB : Hid (w.heap.size ≤ w.heap.size + 1) := Lib.hid (by omega)
  clear h1 h2 h3 hX1 HX
  go_wp2_with (refine wpList_load_row rfl _ _ rfl w.heap.size rfl 44 cs (0, 0) _ HX2.out Try.underlying44 rfl HI.out ?_)
  refine (w_msgI (w.heap.size + 1) (w.heap.size + 1) w1.heap.size cs x _ 0 w _ HO.out HB.out HWB.out HK.out (by omega) HM.out).mono ?_
  rintro e w2 ⟨u, he, h1, h2⟩
  rw [he.out]
  clear he
  have H1 := Lib.hid h1
  have HB2 := Lib.hid (HB.out.trans (h2.low.mono (by omega : w.heap.size ≤ w.heap.size + 1)))
  have c0 := h1.bx.cell 0
  simp only [List.getElem?_cons_zero] at c0
  have hlt := h1.bx.lt
  have hsz : w.heap.size ≤ w2.heap.size := HB2.out.size
  have HSh : Hid (Sh 1061915 (wrs (some []) (msC.fs x))) := Lib.hid ((ShC.ms _ _ _ HK.out).le (by omega))
  clear h1 h2
  by_cases q : Oks (msC.fs x)
  · have e1 := wrs_ok _ [] q
    rw [List.nil_append] at e1
    rw [e1] at H1 HSh
    have HQ := Lib.hid q
    clear e1 q
    obtain ⟨v2, hv2⟩ := H1.out.wr
    have HV := Lib.hid hv2
    have hlen : (eF (msC.fs x)).length ≤ 99999999900 := by have h := HSh.out; unfold Sh stl at h; simp only [Option.getD_some] at h; omega
    clear hv2
    go_wp2_with fail
    refine (vbytes_good _ _ _ _ _ HV.out hlen).mono ?_
    rintro e w3 ⟨u, he, h1, h2⟩
    rw [he.out]
    clear he
    have HU := Lib.hid (h1.base hsz)
    have H3 := Lib.hid (HB2.out.trans (h2.mono hsz))
    clear h1 h2
    go_wp2_with fail
    go_ret2
    exact Or.inl ⟨HQ.out, u, rfl, HU.out, H3.out⟩
  · have e1 := wrs_bad _ [] q
    rw [e1] at H1 HSh
    have HQ := Lib.hid q
    clear e1 q
    obtain ⟨v2, hv2⟩ := H1.out.wr
    have HV := Lib.hid hv2
    clear hv2
    go_wp2_with fail
    refine (vbytes_bad _ _ _ _ HV.out).mono ?_
    rintro e w3 ⟨rfl, rfl⟩
    go_wp2_with fail
    go_ret2
    exact Or.inr ⟨HQ.out, rfl, HB2.out⟩
set_option maxRecDepth 100000 in
set_option maxHeartbeats 4000000 in
theorem msg_any (v : Value) (x : Msg7) (w : World) (h : MsgIs w v x) : Calls Try.prog 12 #[v] w (ByP (msC.fs x) w) := by
  have HM := h
  obtain ⟨cs, rfl, hs⟩ := h
  have HI : Hid ((Try.prog.info? 44).map (·.size) = some cs.size) := Lib.hid (by rw [ms_size hs]; kernel_rfl)
  have HX := Lib.hid (bka_new w 44 cs)
  have HM2 := Lib.hid (HM.on ((Below.refl _ _).alloc (Nat.le_refl _) (.cells cs 44)))
  clear hs HM
  go_enter Try.func12, Try.ntmps12
  go_wp2_with (refine wpList_load_row rfl _ _ rfl w.heap.size rfl 44 cs (0, 0) _ HX.out Try.underlying44 rfl HI.out ?_)
  refine (written_msg _ _ _ HM2.out).mono ?_
  rintro e w2 hP
  have HP := Lib.hid hP
  clear hP
  rcases HP.out with ⟨q, u, he, h1, h2⟩ | ⟨q, he, h2⟩
  · rw [he.out]
    clear he HP
    have HU := Lib.hid (show Own8 w2 w.heap.size u _ from h1.base (by simp))
    have H3 := Lib.hid (show Below w.heap.size w w2 from ((Below.refl _ _).alloc (Nat.le_refl _) _).trans (h2.mono (by simp)))
    have HQ := Lib.hid q
    clear h1 h2 q
    go_wp2_with fail
    go_ret2
    exact Or.inl ⟨HQ.out, u, rfl, HU.out, H3.out⟩
  · rw [he.out]
    clear he HP
    have H3 := Lib.hid (show Below w.heap.size w w2 from ((Below.refl _ _).alloc (Nat.le_refl _) _).trans (h2.mono (by simp)))
    have HQ := Lib.hid q
    clear h2 q
    go_wp2_with fail
    go_ret2
    exact Or.inr ⟨HQ.out, rfl, H3.out⟩
end Go.Proofs.Ytllcmapgigfgoaa
