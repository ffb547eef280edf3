/-
  The walk of package paths' cut.
-/
import Derived.Test.YtdhmalpeooobfaaPthB
import Derived.WalkMore
namespace Go.Proofs.Ytdhmalpeooobfaa
open Go.RowKit
set_option linter.unusedSimpArgs false
set_option linter.unusedVariables false

/-- The library's one variable holds a number. -/
def ML (w : World) : Prop := ∃ m, w.cell? ⟨0, 0, none⟩ = some (.int .i64 m)
theorem ML.below {w w' : World} (h : ML w) (hb : Below w.heap.size w w') : ML w' := by
  obtain ⟨m, hm⟩ := h
  exact ⟨m, (hb.cell (p := ⟨0, 0, none⟩) (block_lt_of_cell2 hm rfl)).trans hm⟩
def tx (ns : List (List UInt8)) : List ByteArray := ns.map ofL
theorem cut1_any (R : List UInt8) (w : World) (hR : R.length ≤ 1000) (hm : ML w) : Calls Try.prog 37 #[.string (ofL R), .string { data := #[47] }] w fun e w' =>
    e = .returned (.tuple #[.string (ofL (Lib.cut R [47]).1), .string (ofL (Lib.cut R [47]).2.1), .bool (Lib.cut R [47]).2.2]) ∧ Below w.heap.size w w' := by
  obtain ⟨m, hm⟩ := hm
  have := Try.strings_Cut (ofL R) { data := #[47] } m w (by rw [ofL_size]; omega) hm
  rw [ofL_data] at this
  refine this.mono ?_
  rintro e w' ⟨he, n, rfl⟩
  exact ⟨he, below_drewNg w n⟩
theorem cutpre_any (p : ByteArray) (w : World) : Calls Try.prog 36 #[.string p, .string { data := #[47] }] w fun e w' =>
    e = .returned (.tuple #[.string (ofL (Lib.trimPrefix p.data.toList [47])), .bool (Lib.hasPrefix p.data.toList [47])]) ∧ w = w' :=
  (Try.strings_CutPrefix p { data := #[47] } w).mono fun e w' ⟨he, hw⟩ => ⟨he, hw.symm⟩
def sl : Value → Nat
  | .slice _ n _ => n
  | _ => 0
def CutP (p : ByteArray) (w : World) (e : Ending) (w' : World) : Prop := ∃ v, Hid (e = .returned (.tuple #[v, .bool (vld p)])) ∧ Own1 w' w.heap.size 9 v ((tx (nmL p)).map .string) ∧ Below w.heap.size w w'
theorem cutP_no {p : ByteArray} (h : vld p = false) (w w' : World) (hb : Below w.heap.size w w') : CutP p w (.returned (.tuple #[.slice none 0 0, .bool false])) w' := by
  refine ⟨.slice none 0 0, by rw [h]; rfl, ?_, hb⟩
  rw [nm_novld h]
  exact Own1.nil _ _ _
set_option maxHeartbeats 4000000 in
theorem cut_any (p : ByteArray) (w : World) (hp : p.size ≤ 1000) (hm : ML w) : Calls Try.prog 27 #[.string p] w (CutP p w) := by
  by_cases hr : p = pth []
  · subst hr
    have q1 : (ByteArray.toList { data := #[47] } == ByteArray.toList { data := #[47] }) = true := by simp
    have e : pth [] = { data := #[47] } := rfl
    have hv := (pth_vld (ns := []) rfl)
    rw [e] at hv ⊢
    have HV := Lib.hid hv
    clear hv e hm hp
    go_enter Try.func27, Try.ntmps27
    go_wp2
    go_step3
    go_wp2
    rw [Exit.noGoto_ret]
    go_ret2
    refine ⟨.slice none 0 0, by rw [HV.out.1]; rfl, ?_, Below.refl _ _⟩
    rw [HV.out.2]
    exact Own1.nil _ _ _
  · have q1 : (p.toList == [47]) = false := by
      rw [Lib.toList_data]
      simp only [beq_eq_false_iff_ne, ne_eq]
      intro h
      exact hr (data_inj (by rw [h]; rfl))
    have hd : p = ofL p.data.toList := (ofL_of p).symm
    obtain ⟨l, hl⟩ : ∃ l, p.data.toList = l := ⟨_, rfl⟩
    have cP := cutpre_any p w
    rw [hl] at cP
    have hvl : vld p = (nmsO l).isSome := by unfold vld; rw [hl]
    have hnl : nmL p = (nmsO l).getD [] := by unfold nmL; rw [hl]
    have hsz : l.length ≤ 1000 := by rw [← hl, ← Lib.size_eq]; exact hp
    have hpl : p = ofL l := by rw [← hl]; exact hd
    by_cases hpre : ∃ r, l = 47 :: r
    · obtain ⟨r, hr2⟩ := hpre
      subst hr2
      have hrne : r ≠ [] := by
        rintro rfl
        exact hr (by rw [hpl]; rfl)
      have e1 : Lib.hasPrefix (47 :: r) [47] = true := by simp [Lib.hasPrefix]
      have e2 : Lib.trimPrefix (47 :: r) [47] = r := by simp [Lib.trimPrefix, Lib.hasPrefix]
      rw [e1, e2] at cP
      have hO : nmsO (47 :: r) = if okN (spl r) then some (spl r) else none := by
        unfold nmsO
        simp only [if_true]
        rw [if_neg hrne]
      rw [hO] at hvl hnl
      obtain ⟨ps, hps⟩ : ∃ ps, spl r = ps := ⟨_, rfl⟩
      rw [hps] at hvl hnl
      have hpl0 : 0 < ps.length := by
        rw [← hps]
        exact List.length_pos_iff.2 (spl_ne r)
      have hno : okN ps = false → vld p = false := fun h => by rw [hvl, h]; rfl
      have hyes : okN ps = true → vld p = true ∧ nmL p = ps := fun h => by rw [hvl, hnl, h]; exact ⟨rfl, rfl⟩
      have HNO := Lib.hid hno
      have HYES := Lib.hid hyes
      have HPS := Lib.hid hps
      have HM := Lib.hid hm
      have hrl : r.length ≤ 1000 := by simp at hsz; omega
      clear hno hyes hps hm hO hvl hnl e1 e2 hrne hr hd hl hpl hp hsz
      go_enter Try.func27, Try.ntmps27
      go_wp2_with fail
      go_step3
      go_wp2_with fail
      refine cP.mono ?_
      rintro e w1 ⟨rfl, rfl⟩
      clear cP
      go_wp2_with fail
      go_step3
      go_wp2_with fail
      go_loopw [4, 5, 6] (fun names rest more wr => ∃ (k : Nat) (R : List UInt8) (a : Option Addr) (c : Nat) (b : Bool), k ≤ 8 ∧ k ≤ ps.length ∧ R.length ≤ 1000 ∧ names = .slice a k c ∧ rest = .string (ofL R) ∧ more = .bool b ∧ Hid (b = decide (k < ps.length)) ∧ Hid (k < ps.length → spl R = ps.drop k) ∧ Hid (∀ n ∈ ps.take k, nmB n = true) ∧ Hid (Own1 wr w.heap.size 9 (.slice a k c) ((tx (ps.take k)).map .string)) ∧ Hid (Below w.heap.size w wr)) (fun names _ _ _ => 9 - sl names)
      case atStart => exact ⟨0, r, none, 0, true, by omega, by omega, hrl, rfl, rfl, rfl, Lib.hid (by simp [hpl0]), Lib.hid (fun _ => by rw [HPS.out]; rfl), Lib.hid (by simp), Lib.hid (by simpa [tx] using Own1.nil _ _ _), Lib.hid (Below.refl _ _)⟩
      case round =>
        obtain ⟨k, R, a, c, b, hk8, hkl, hRl, rfl, rfl, rfl, hb, hR, hN, hO, hB⟩ := hrel
        obtain ⟨w3, rfl⟩ : ∃ w3 : World, w3 = wr := ⟨_, rfl⟩
        cases b with
        | false =>
          have hkk : k = ps.length := by
            have := hb.out
            simp only [Bool.false_eq, decide_eq_false_iff_not] at this
            omega
          subst hkk
          have hk0 : (0 : Int) < (ps.length : Int) := by omega
          have hN' := hN.out
          have hO' := hO.out
          rw [List.take_length] at hN' hO'
          have hok := okN_mk hN' hk8
          have HF := Lib.hid (HYES.out hok)
          have HO := Lib.hid hO'
          clear hN hN' hO hO' hok hb hR
          go_wp2
          rw [Exit.noGoto_ret]
          go_ret2
          refine ⟨_, by rw [HF.out.1]; rfl, ?_, hB.out⟩
          rw [HF.out.2]
          exact HO.out
        | true =>
          have hkk : k < ps.length := by
            have := hb.out
            simpa using this
          have hRs := hR.out hkk
          have hcs := cut_spl R
          have cC := cut1_any R w3 hRl (HM.out.below hB.out)
          obtain ⟨h, hh⟩ : ∃ h, (Lib.cut R [47]).1 = h := ⟨_, rfl⟩
          obtain ⟨t, ht⟩ : ∃ t, (Lib.cut R [47]).2.1 = t := ⟨_, rfl⟩
          obtain ⟨m, hmm⟩ : ∃ m, (Lib.cut R [47]).2.2 = m := ⟨_, rfl⟩
          rw [hh, ht, hmm] at cC hcs
          have htl : t.length ≤ 1000 := by
            rw [← ht]
            unfold Lib.cut
            split
            · simp; omega
            · simp
          have hd : ps.drop k = h :: ps.drop (k + 1) := by
            have e0 := List.drop_eq_getElem_cons hkk
            have : ps[k] = h := by
              rw [hRs, e0] at hcs
              rcases hcs with ⟨_, q⟩ | ⟨_, q, _⟩
              · exact (List.cons.inj q).1
              · exact (List.cons.inj q).1
            rw [e0, this]
          have hbt : m = decide (k + 1 < ps.length) ∧ (k + 1 < ps.length → spl t = ps.drop (k + 1)) := by
            rw [hRs, hd] at hcs
            rcases hcs with ⟨q1, q⟩ | ⟨q1, q, _⟩
            · have e := (List.cons.inj q).2
              have hne : ps.drop (k + 1) ≠ [] := by rw [e]; exact spl_ne t
              have : k + 1 < ps.length := by
                apply Classical.byContradiction
                intro hc
                exact hne (List.drop_eq_nil_of_le (by omega))
              exact ⟨by rw [q1]; simp [this], fun _ => e.symm⟩
            · have e := (List.cons.inj q).2
              have : ¬ k + 1 < ps.length := by
                intro hc
                have := congrArg List.length e
                simp at this
                omega
              exact ⟨by rw [q1]; simp [this], fun hc => absurd hc this⟩
          have hhm : h ∈ ps := List.mem_of_mem_drop (by rw [hd]; simp)
          have htk : ps.take (k + 1) = ps.take k ++ [h] := by
            have e0 := List.drop_eq_getElem_cons hkk
            rw [hd] at e0
            have : ps[k] = h := ((List.cons.inj e0).1).symm
            rw [List.take_succ_eq_append_getElem hkk, this]
          have HBT := Lib.hid hbt
          have HHM := Lib.hid hhm
          have HTK := Lib.hid htk
          clear hcs hh ht hmm hRs hd hbt hhm htk hb hR
          go_wp2_with fail
          refine cC.mono ?_
          rintro e w4 ⟨rfl, hb4⟩
          have HB4 := Lib.hid (below_self hB.out hb4)
          have HO4 := Lib.hid (hO.out.below hb4)
          have cN := isname_any (ofL h) w4
          have hnB : nmS (ofL h) = nmB h := by unfold nmS; rw [ofL_data]
          rw [hnB] at cN
          obtain ⟨B, hBB⟩ : ∃ B, nmB h = B := ⟨_, rfl⟩
          rw [hBB] at cN
          have HBB := Lib.hid hBB
          clear hb4 cC hnB hBB hB hO
          go_wp2_with fail
          refine cN.mono ?_
          rintro e w5 ⟨rfl, hb5⟩
          have HB5 := Lib.hid (below_self HB4.out hb5)
          have HO5 := Lib.hid (HO4.out.below hb5)
          clear hb5 cN HB4 HO4
          cases B with
          | false =>
            have hv := HNO.out (by
              apply Bool.eq_false_iff.2
              intro hc
              have := okN_all hc h HHM.out
              rw [HBB.out] at this
              cases this)
            have HV := Lib.hid hv
            clear hv
            go_wp2
            rw [Exit.noGoto_ret]
            go_ret2
            exact cutP_no HV.out _ _ HB5.out
          | true =>
            by_cases hk : k = 8
            · subst hk
              have hv := HNO.out (by
                apply Bool.eq_false_iff.2
                intro hc
                have := okN_len hc
                omega)
              have HV := Lib.hid hv
              clear hv
              go_wp2
              rw [Exit.noGoto_ret]
              go_ret2
              exact cutP_no HV.out _ _ HB5.out
            · have hk7 : k < 8 := by omega
              have k1 : ((k : Int) == 8) = false := by simp; omega
              have HLN : Hid (((tx (ps.take k)).map Value.string).length ≤ 1000000000) := Lib.hid (by simp [tx]; omega)
              have hz := HB5.out.size
              go_wp2_with (refine wpList_app1 rfl _ _ 25 9 _ 16 rfl Try.underlying25 infoStr rfl (by omega) w.heap.size _ ((tx (ps.take k)).map .string) rfl (HO5.out.below ((Below.refl _ _).alloc (Nat.le_refl _) _)) w5.heap.size (.string (ofL h)) rfl ?hu rfl HLN.out (by simp; omega) ?_)
              case hu => simp [go_sem]
              intro v6 w6 ho6 hb6 hz6 hg6
              have ho7 : Own1 w6 w.heap.size 9 v6 ((tx (ps.take (k + 1))).map Value.string) := by
                rw [HTK.out]
                simpa [tx] using ho6
              obtain ⟨a6, c6, e6⟩ := ho7.slice
              have hl6 : ((tx (ps.take (k + 1))).map Value.string).length = k + 1 := by simp [tx]; omega
              rw [hl6] at e6
              subst e6
              have HO7 := Lib.hid ho7
              have HB7 := Lib.hid (HB5.out.trans (((Below.refl w5.heap.size w5).alloc (Nat.le_refl _) _ |>.mono hz).trans hb6))
              have HN7 : Hid (∀ n ∈ ps.take (k + 1), nmB n = true) := Lib.hid (by
                rw [HTK.out]
                intro n hn
                rcases List.mem_append.1 hn with q | q
                · exact hN.out n q
                · rw [List.mem_singleton.1 q]; exact HBB.out)
              clear ho6 ho7 hb6 hz6 hg6 hl6 HO5 HB5 hN
              go_wp2
              go_roundw
              case rel => exact ⟨k + 1, t, a6, c6, m, by omega, by omega, htl, rfl, rfl, rfl, Lib.hid HBT.out.1, Lib.hid HBT.out.2, HN7, HO7, HB7⟩
              case measure => simp [sl]; omega
    · have e1 : Lib.hasPrefix l [47] = false := by
        unfold Lib.hasPrefix
        cases l with
        | nil => rfl
        | cons c r =>
          by_cases hc : c = 47
          · exact absurd ⟨r, by rw [hc]⟩ hpre
          · simp [List.isPrefixOf, Ne.symm hc]
      rw [e1] at cP
      have hv : vld p = false := by
        rw [hvl]
        unfold nmsO
        cases l with
        | nil => rfl
        | cons c r =>
          by_cases hc : c = 47
          · exact absurd ⟨r, by rw [hc]⟩ hpre
          · simp [hc]
      have HV := Lib.hid hv
      clear hv e1 hpre hm hvl hnl hr hd hl hpl hp hsz
      go_enter Try.func27, Try.ntmps27
      go_wp2_with fail
      go_step3
      go_wp2_with fail
      refine cP.mono ?_
      rintro e w1 ⟨rfl, rfl⟩
      clear cP
      go_wp2_with fail
      go_step3
      go_wp2_with fail
      go_loopw [4, 5, 6] (fun names rest more wr => names = .slice none 0 0 ∧ more = .bool false ∧ w = wr) (fun names _ _ _ => 9 - sl names)
      case atStart => exact ⟨rfl, rfl, rfl⟩
      case round =>
        obtain ⟨rfl, rfl, rfl⟩ := hrel
        go_wp2
        rw [Exit.noGoto_ret]
        go_ret2
        exact cutP_no HV.out _ _ (Below.refl _ _)
end Go.Proofs.Ytdhmalpeooobfaa
