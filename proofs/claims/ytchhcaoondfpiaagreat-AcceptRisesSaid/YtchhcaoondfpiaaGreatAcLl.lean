/-
  Texts put together: AcZ, AcQ, AcO, AcI, AcP, AcS, AcL.
-/
import Derived.Test.YtchhcaoondfpiaaGreatAcYa
import Derived.Test.YtchhcaoondfpiaaGreatAcYb
import Derived.Test.YtchhcaoondfpiaaGreatAcYc
import Derived.Test.YtchhcaoondfpiaaGreatAcYd
import Derived.Test.YtchhcaoondfpiaaGreatMs2
import Derived.Test.YtchhcaoondfpiaaGreatAcAt
import Derived.Deep.MidRow
import Derived.Test.YtchhcaoondfpiaaGreatAcIb
import Derived.Laws.StructEq
import Derived.Deep.QuietTactic
import Derived.BigQuiet
namespace Go.Proofs.YtchhcaoondfpiaaGreat
open Go.RowKit Go.Sort
open Go.WideMaps
set_option linter.unusedSimpArgs false
set_option linter.unusedVariables false
set_option maxRecDepth 100000

theorem bhear_any {w : World} {B g mb K : Nat} {b : BSt} (h : BkAt w B g mb K b) {v : Value} {m : Mg} (hm : MgA w v m) (hn : b.ns.length ≤ 1000) (hK : K ≤ 800) (hml : Tc.ML w) (hs : ∀ e ∈ b.l, okL e.2.at'.2) (hz : ∀ k ∈ knB b.l, k.cm.pa.size ≤ 1000 ∧ k.a.1 ≤ 1125899906842624) (hp : m.ins.cm.pa.size ≤ 1000) (hd : m.ins.at'.2.length ≤ 100) (hx : (getL b.l m.id).at'.2.length ≤ 100000) : Calls Tryz.prog 16 #[bP g, v] w (HrP (hearB lclA b m) B g mb K w) := by
  by_cases g0 : m.kind = 0
  · exact bhear_0 h hm g0 hn hK hml hs hz hp hd hx
  by_cases g2 : m.kind = 2
  · exact bhear_2 h hm g2 hn hK hml hs hz hp hd hx
  by_cases g4 : m.kind = 4
  · exact bhear_4 h hm g4 hn hK hml hs hz hp hd hx
  by_cases g5 : m.kind = 5
  · exact bhear_5 h hm g5 hn hK hml hs hz hp hd hx
  · rw [hear_off lclA ⟨g0, g2, g4, g5⟩]
    exact bhear_off h hm g0 g2 g4 g5
end Go.Proofs.YtchhcaoondfpiaaGreat
namespace Go.Proofs.YtchhcaoondfpiaaGreat
open Go.RowKit Go.Sort
open Go.WideMaps
set_option linter.unusedSimpArgs false
set_option linter.unusedVariables false
set_option maxRecDepth 100000

/-- A row of one's own: two cells of one element turn. -/
theorem knd_set2 {w : World} {base g cap n : Nat} {rs : List (Cls 13)} (h : KnK.Own w base (.slice (some ⟨g, 0, none⟩) n cap) rs) (k : Nat) (hk : k < rs.length) (y : Cls 13) (s v : Value) (hy : y.cs = (rs[k].cs.set 11 s).set 12 v) :
    KnK.Own ((w.setCell ⟨g, k * 13 + 11, none⟩ s).setCell ⟨g, k * 13 + 12, none⟩ v) base (.slice (some ⟨g, 0, none⟩) n cap) (rs.set k y) := by
  obtain ⟨h1, h2⟩ := h
  have hrow : KnK.row (rs.set k y) = ((KnK.row rs).set (k * 13 + 11) s).set (k * 13 + 12) v := by
    have key : ∀ (rs : List (Cls 13)) (k : Nat) (hk : k < rs.length) (hy : y.cs = (rs[k].cs.set 11 s).set 12 v), KnK.row (rs.set k y) = ((KnK.row rs).set (k * 13 + 11) s).set (k * 13 + 12) v := by
      intro rs
      induction rs with
      | nil => intro k hk; simp at hk
      | cons x rs ih =>
        intro k hk hy
        have hx : x.cs.length = 13 := x.len
        have e0 : ∀ (a : Cls 13) (l : List (Cls 13)), KnK.row (a :: l) = a.cs ++ KnK.row l := fun a l => by simp [Knd.row]; rfl
        cases k with
        | zero =>
          rw [List.set_cons_zero, e0, e0, hy]
          simp only [List.getElem_cons_zero]
          rw [List.set_append_left _ _ (by omega), List.set_append_left _ _ (by simp; omega)]
        | succ k =>
          rw [List.set_cons_succ, e0, e0, ih k (by simpa using hk) (by simpa using hy)]
          rw [List.set_append_right _ _ (by omega), List.set_append_right _ _ (by omega), hx]
          congr 2
          · congr 1; omega
          · omega
    exact key rs k hk hy
  refine ⟨by rw [hrow]; simp only [List.length_set]; simpa using h1, ?_⟩
  rcases h2 with ⟨e, _⟩ | ⟨g', cap', cur, e, hg, hh, hn, hmx, hs, hx⟩
  · cases e
  · simp only [Value.slice.injEq, Option.some.injEq, Addr.mk.injEq] at e
    obtain ⟨⟨rfl, _, _⟩, hn', rfl⟩ := e
    refine .inr ⟨g, cap, (cur.setIfInBounds (k * 13 + 11) s).setIfInBounds (k * 13 + 12) v, by simp only [List.length_set]; rw [hn'], hg, ?_, by simpa using hn, hmx, by simpa using hs, ?_⟩
    · have hgl : g < w.heap.size := (Array.getElem?_eq_some_iff.1 hh).1
      have q1 := heap_setCell_same w g (k * 13 + 11) cur KnK.T s hh
      have q2 := heap_setCell_same _ g (k * 13 + 12) _ KnK.T v q1
      exact q2
    · rw [Array.toList_setIfInBounds, Array.toList_setIfInBounds, hrow]
      simp only [List.length_set]
      rw [List.take_set, List.take_set, hx]
theorem kn_at {w : World} {B n cap : Nat} {a : Option Addr} {rs : List (Cls 13)} (h : KnK.Own w B (.slice a n cap) rs) (hr : rs ≠ []) : ∃ g, a = some ⟨g, 0, none⟩ ∧ B ≤ g ∧ g < w.heap.size ∧ (∃ cur, w.heap[g]? = some (.cells cur KnK.T (0, 0))) ∧ ∀ o, w.frozen? ⟨g, o, none⟩ = false := by
  obtain ⟨h1, h2⟩ := h
  rcases h2 with ⟨e, h0⟩ | ⟨g, cap', cur, e, hg, hh, _⟩
  · exfalso
    exact hr (List.length_eq_zero_iff.1 h0)
  · simp only [Value.slice.injEq] at e
    exact ⟨g, e.1, hg, (Array.getElem?_eq_some_iff.1 hh).1, ⟨cur, hh⟩, fun o => by simp [World.frozen?, hh]⟩
theorem own_setOther {w : World} {B g o : Nat} {v u : Value} {l : List I3} (h : IK.Own w B v l) {cs : Array Value} {T : TypeId} {fr : Nat × Nat} (hg : w.heap[g]? = some (.cells cs T fr)) (hT : T ≠ 37) : IK.Own (w.setCell ⟨g, o, none⟩ u) B v l :=
  h.keepB fun k hk => Below.heap_setCell _ _ _ k (by
    obtain ⟨_, cs', fr', hc⟩ := h.blk k hk
    rintro rfl
    rw [hg] at hc
    cases hc
    exact hT rfl)
def KwP (l : List Kn) (w : World) (e : Ending) (w' : World) : Prop := ∃ v rs, Hid (e = .returned v) ∧ KnK.Own w' w.heap.size v rs ∧ KnE w' rs l ∧ Below w.heap.size w w'
set_option maxHeartbeats 8000000 in
theorem bknown_any {w : World} {B g0 mb K : Nat} {b : BSt} (h : BkAt w B g0 mb K b) (hK : K ≤ 1000) (hs : ∀ e ∈ b.l, okL e.2.at'.2) (hd : ∀ k ∈ knB b.l, k.a.2.length ≤ 100000) : Calls Tryz.prog 23 #[bP g0] w (KwP (knB b.l) w) := by
  have HKn := Lib.hid (known_any h hK hs)
  have HD := Lib.hid hd
  obtain ⟨L, hL⟩ : ∃ l, knB b.l = l := ⟨_, rfl⟩
  have hlen : L.length ≤ 1000 := by
    obtain ⟨D, mm, q1, q2, q3⟩ := h.map
    have h1 := knB_len b.l
    have h2 := q3.size
    have h3 := q2.size_le
    rw [hL] at h1
    omega
  rw [hL] at HKn HD ⊢
  clear h hs hd hL hK
  go_enter Tryz.func23, Tryz.ntmps23
  go_wp2_with fail
  refine HKn.out.mono ?_
  rintro e w1 ⟨v1, rs, he, ho, hE, hb⟩
  rw [he.out]
  obtain ⟨a, c, hv⟩ := ho.slice
  obtain ⟨N, hN⟩ : ∃ n, rs.length = n := ⟨_, rfl⟩
  have hLN : L.length = N := by rw [← hE.1, hN]
  rw [hN] at hv
  subst hv
  have HO := Lib.hid ho
  have HE := Lib.hid (hE.below hb)
  have HB := Lib.hid hb
  have HLN := Lib.hid hLN
  have hN1 : N ≤ 1000 := by omega
  clear he ho hE hb hN hLN HKn
  go_wp2_with fail
  go_loopw [9] (fun i wr => ∃ (k : Nat) (rs : List (Cls 13)), k ≤ N ∧ i = .int .i64 k ∧ Hid (KnK.Own wr w.heap.size (.slice a N c) rs) ∧ Hid (KnE wr rs L) ∧ Hid (Below w.heap.size w wr)) (fun i _ => N - (intOf i).toNat)
  case atStart => exact ⟨0, rs, Nat.zero_le _, rfl, HO, HE, HB⟩
  case round =>
    clear HO HE HB
    obtain ⟨k, rs, hk, rfl, hO, hE, hB⟩ := hrel
    by_cases hlt : k < N
    · have hlt' : (k : Int) < (N : Int) := by omega
      have hkr : k < rs.length := by rw [hE.out.1, HLN.out]; exact hlt
      have hkL : k < L.length := by rw [HLN.out]; exact hlt
      obtain ⟨g, hga, hBg, hgl, ⟨cur, hcur⟩, hfz⟩ := kn_at hO.out (by intro e; rw [e] at hkr; simp at hkr)
      obtain ⟨en, hl2, g2, off, v2, hda, hg2, hcs, hid, hrd, hok⟩ := knCell (hE.out.rows hO.out.rd) k hlt
      rw [hga] at hda
      injection hda with e1
      injection e1 with e2 e3 _
      subst e2 e3
      subst hga
      have q11 := hcs 11 _ rfl
      have q12 := hcs 12 _ rfl
      obtain ⟨a9, c9, hk9, _, hown9, _⟩ := hE.out.2 k hkr hkL
      have hmem : L[k] ∈ L := List.getElem_mem hkL
      have hdl := HD.out _ hmem
      obtain ⟨x, hx⟩ : ∃ x, L[k] = x := ⟨_, rfl⟩
      rw [hx] at q11 hrd hok hid hk9 hdl
      obtain ⟨⟨i1, i2, i3⟩, ⟨c1, c2, c3, c4, c5, c6, c7, c8⟩, ⟨s, dl⟩⟩ := x
      simp only [Nat.zero_add] at q11 q12 hrd hok hdl
      obtain ⟨a2, k2, hv2⟩ := hrd.slice
      obtain ⟨M, hM⟩ : ∃ m, dl.length = m := ⟨_, rfl⟩
      rw [hM] at hv2
      subst hv2
      have HC := Lib.hid (cattr_any s (.slice a2 M k2) dl wr hrd hdl)
      have HF := Lib.hid hfz
      have HCUR := Lib.hid hcur
      have HX := Lib.hid hx
      have HK9 := Lib.hid hk9
      have HI := Lib.hid hid
      have HOK := Lib.hid hok
      have HMl := Lib.hid hM
      have HKL := Lib.hid hkL
      have HKR := Lib.hid hkr
      have hgw : g < wr.heap.size := hgl
      clear hcs hrd hok hid hk9 hown9 hmem hdl hx hM hfz hcur en
      go_wp2_with fail
      refine HC.out.mono ?_
      rintro e w5 ⟨v5, he, ho5, hb5⟩
      rw [he.out]
      obtain ⟨a5, k5, hv5⟩ := ho5.slice
      try simp only at hv5 ho5
      rw [HMl.out] at hv5
      subst hv5
      have r11 := (hb5.cell (p := ⟨g, k * 13 + 11, none⟩) hgw).trans q11
      have r12 := (hb5.cell (p := ⟨g, k * 13 + 12, none⟩) hgw).trans q12
      have f11 := (hb5.frozen (p := ⟨g, k * 13 + 11, none⟩) hgw).trans (HF.out _)
      have f12 := (hb5.frozen (p := ⟨g, k * 13 + 12, none⟩) hgw).trans (HF.out _)
      have hz5 := hb5.size
      have HO5 := Lib.hid (hO.out.below hb5)
      have HE5 := Lib.hid (hE.out.below hb5)
      have HN5 := Lib.hid (ho5.base (Nat.zero_le _))
      have HB5 := Lib.hid (hB.out.trans (hb5.mono hB.out.size))
      have HC5 : Hid (w5.heap[g]? = some (.cells cur KnK.T (0, 0))) := Lib.hid ((hb5.block _ hgw).trans HCUR.out)
      clear he ho5 hb5 hO hE hB HC q11 q12
      go_wp2_with fail
      obtain ⟨V, hV⟩ : ∃ V, (w5.setCell ⟨g, k * 13 + 11, none⟩ (.int .i64 s)).setCell ⟨g, k * 13 + 12, none⟩ (.slice a5 M k5) = V := ⟨_, rfl⟩
      have hTK : KnK.T ≠ 37 := by decide
      have HOV : Hid (KnK.Own V w.heap.size (.slice (some ⟨g, 0, none⟩) N c) (rs.set k ⟨knE ⟨(i1, i2, i3), ⟨c1, c2, c3, c4, c5, c6, c7, c8⟩, (s, dl)⟩ (.slice a5 M k5), rfl, knE_one rfl⟩)) := Lib.hid (by
        rw [← hV]
        refine knd_set2 HO5.out k HKR.out _ (.int .i64 s) (.slice a5 M k5) ?_
        rw [HK9.out]
        rfl)
      have hq1 := heap_setCell_same w5 g (k * 13 + 11) cur KnK.T (.int .i64 s) HC5.out
      have HEV : Hid (KnE V (rs.set k ⟨knE ⟨(i1, i2, i3), ⟨c1, c2, c3, c4, c5, c6, c7, c8⟩, (s, dl)⟩ (.slice a5 M k5), rfl, knE_one rfl⟩) L) := Lib.hid (by
        refine ⟨by rw [List.length_set]; exact HE5.out.1, fun j q r => ?_⟩
        rw [List.length_set] at q
        have kp : ∀ {v : Value} {l : List I3}, IK.Own w5 0 v l → IK.Own V 0 v l := fun ho => by
          rw [← hV]
          exact own_setOther (own_setOther ho HC5.out hTK) hq1 hTK
        by_cases e : j = k
        · subst e
          refine ⟨a5, k5, ?_, ?_, ?_, ?_⟩
          · rw [List.getElem_set_self, HX.out, HMl.out]
          · rw [HX.out]; exact HI.out
          · rw [HX.out, HMl.out]; exact kp HN5.out
          · rw [HX.out]; exact HOK.out
        · obtain ⟨a6, c6, h1, h2, h3, h4⟩ := HE5.out.2 j q r
          refine ⟨a6, c6, ?_, h2, kp h3, h4⟩
          rw [List.getElem_set_ne (Ne.symm e)]
          exact h1)
      have HBV : Hid (Below w.heap.size w V) := Lib.hid (by
        rw [← hV]
        exact (HB5.out.setCell (show w.heap.size ≤ (⟨g, k * 13 + 11, none⟩ : Addr).block from hBg) _).setCell (show w.heap.size ≤ (⟨g, k * 13 + 12, none⟩ : Addr).block from hBg) _)
      try rw [hV]
      clear hV hq1 HO5 HE5 HN5 HB5 HC5 r11 r12 f11 f12
      go_roundw
      case rel => exact ⟨k + 1, _, by omega, by go_num, HOV, HEV, HBV⟩
      case measure => simp [intOf]; omega
    · obtain rfl : N = k := by omega
      have hlt' : ¬ (N : Int) < (N : Int) := by omega
      go_wp2
      go_ret
      exact ⟨_, rs, rfl, hO.out, hE.out, hB.out⟩
end Go.Proofs.YtchhcaoondfpiaaGreat
namespace Go.Proofs.YtchhcaoondfpiaaGreat
open Go.RowKit
set_option linter.unusedSimpArgs false
set_option linter.unusedVariables false
set_option maxRecDepth 100000

/-- What Over tells: where it is false there are few messages, of few dependencies. -/
def OvA (l : List Mg) (w : World) (e : Ending) (w' : World) : Prop := ∃ R : Bool, Hid (e = .returned (.bool R)) ∧ (R = false → l.length ≤ 40 ∧ ∀ m ∈ l, (m.ins.at'.2.length ≤ 60 ∧ m.ins.cm.pa.size ≤ 300)) ∧ Below w.heap.size w w'
set_option maxHeartbeats 8000000 in
theorem overA_any (v : Value) (rs : List (Cls 27)) (l : List Mg) (w : World) (h : RowIs KM msS w v rs l) : Calls Tryz.prog 12 #[v] w (OvA l w) := by
  obtain ⟨a, c, e⟩ := rowSl h
  subst e
  obtain ⟨N, hN⟩ : ∃ N, l.length = N := ⟨_, rfl⟩
  have hlen := h.rd.len
  rw [h.len, hN] at hlen
  have hN63 : N ≤ 9223372036854775807 := by unfold maxLen at hlen; omega
  rw [hN] at h ⊢
  have HN := Lib.hid hN
  have HR := Lib.hid h
  clear h hN hlen
  go_enter Tryz.func12, Tryz.ntmps12
  go_wp2_with fail
  go_loopw [3] (fun i wr => ∃ k : Nat, k ≤ N ∧ k ≤ 41 ∧ i = .int .i64 k ∧ Hid (Below w.heap.size w wr) ∧ Hid (∀ m ∈ l.take k, (m.ins.at'.2.length ≤ 60 ∧ m.ins.cm.pa.size ≤ 300))) (fun i _ => N - (intOf i).toNat)
  case atStart => exact ⟨0, Nat.zero_le _, by omega, rfl, Lib.hid (Below.refl _ _), Lib.hid (fun m hm => by simp at hm)⟩
  case round =>
    obtain ⟨k, hk, hk41, rfl, hB, hF⟩ := hrel
    by_cases hlt : k < N
    · have hi1 : (k : Int) < (N : Int) := by omega
      have hd1 : decide ((k : Int) < (N : Int)) = true := decide_eq_true hi1
      have hd1n : decide (k < N) = true := decide_eq_true hlt
      by_cases h40 : k ≤ 40
      · have hi2 : (k : Int) ≤ 40 := by omega
        have hd2 : decide ((k : Int) ≤ 40) = true := decide_eq_true hi2
        have hd2n : decide (k ≤ 40) = true := decide_eq_true h40
        obtain ⟨-, hl, g, off, cs, ha, hg, hcs, hc⟩ := HR.out.el rfl k hlt
        subst ha
        have eK : KM.k = 27 := rfl
        rw [eK] at hc
        clear eK
        have hcs2 := hcs
        obtain ⟨u, u1, u2, u3, hm⟩ := hcs
        obtain ⟨ua, uc, a1, c1, a2, c2, a3, c3, e0, e1, e2, e3⟩ := hm.sl
        have HTK : Hid (∀ q : (l[k].ins.at'.2.length ≤ 60 ∧ l[k].ins.cm.pa.size ≤ 300), ∀ m ∈ l.take (k + 1), (m.ins.at'.2.length ≤ 60 ∧ m.ins.cm.pa.size ≤ 300)) := Lib.hid (fun q m hm2 => by
          rw [List.take_succ_eq_append_getElem hl] at hm2
          rcases List.mem_append.1 hm2 with r | r
          · exact hF.out m r
          · simp at r; subst r; exact q)
        have HFW := Lib.hid (few_any (.agg cs.toArray) l[k] wr (MsgIs.on ⟨cs.toArray, rfl, by simpa using hcs2⟩ hB.out))
        have hcs3 := hm.cs
        obtain ⟨x, hx⟩ : ∃ x, l[k] = x := ⟨_, rfl⟩
        rw [hx] at HTK hcs3 e0 e1 e2 e3
        clear hm hcs2 hx
        subst e0 e1 e2 e3
        obtain ⟨n0, n1, n2, ⟨n3, n4, n5⟩, ⟨n6, n7⟩, ⟨n8, ⟨n9, n10⟩, ⟨n11, n12⟩, ⟨n13, n14, n15, n16, n17, n18, n19, n20⟩, n21, dl⟩, ⟨n23, l24⟩, l25, l26⟩ := x
        obtain ⟨M, hM⟩ : ∃ m, dl.length = m := ⟨_, rfl⟩
        obtain ⟨d1, hd1'⟩ : ∃ m, l24.length = m := ⟨_, rfl⟩
        obtain ⟨d2, hd2'⟩ : ∃ m, l25.length = m := ⟨_, rfl⟩
        obtain ⟨d3, hd3'⟩ : ∃ m, l26.length = m := ⟨_, rfl⟩
        simp only [msE, inE, snV, hM, hd1', hd2', hd3', List.cons_append, List.nil_append] at hcs3
        subst hcs3
        simp only at HTK
        rw [hM] at HTK
        clear hM hd1' hd2' hd3'
        have HZ := Lib.hid hc
        have HRG : wr.rangeAt g (off + k * 27) [.int .i64 n0, .int .i64 n1, .int .i64 n2, .int .i64 n3, .int .i64 n4, .int .i64 n5, .int .i64 n6, .int .i64 n7, .int .i64 n8, .int .i64 n9, .int .i64 n10, .int .i64 n11, .int .i64 n12, .int .i64 n13, .int .i64 n14, .int .i64 n15, .string n16, .string n17, .int .i64 n18, .int .i64 n19, .int .i64 n20, .int .i64 n21, .slice ua M uc, .int .i64 n23, .slice a1 d1 c1, .slice a2 d2 c2, .slice a3 d3 c3] := fun j v hv => (hB.out.cell (p := ⟨g, off + k * 27 + j, none⟩) hg).trans (hc j v hv)
        have hgr : g < wr.heap.size := Nat.lt_of_lt_of_le hg hB.out.size
        clear hc
        go_wp2_with (first | refine wpList_load_mid rfl _ _ rfl g (off + k * 27) rfl _ _ HRG Tryz.underlying54 rfl (by kernel_rfl) ?_ | fail)
        refine HFW.out.mono ?_
        rintro e w2 ⟨R, he, hb⟩
        rw [he.out]
        have HB2 := Lib.hid (below_self hB.out hb)
        have y22 := (HB2.out.cell (p := ⟨g, off + k * 27 + 22, none⟩) hg).trans (HZ.out 22 _ rfl)
        have y16 := (HB2.out.cell (p := ⟨g, off + k * 27 + 16, none⟩) hg).trans (HZ.out 16 _ rfl)
        have y17 := (HB2.out.cell (p := ⟨g, off + k * 27 + 17, none⟩) hg).trans (HZ.out 17 _ rfl)
        clear he hb HFW HRG
        cases R with
        | false =>
          go_wp2
          go_ret
          exact ⟨true, rfl, (fun q => by cases q), HB2.out⟩
        | true =>
          by_cases p1 : (60 : Int) < (M : Int)
          · have p1d : decide ((60 : Int) < (M : Int)) = true := decide_eq_true p1
            have p1n : decide (60 < M) = true := decide_eq_true (by omega)
            go_wp2
            go_ret
            exact ⟨true, rfl, (fun q => by cases q), HB2.out⟩
          · have p1d : decide ((60 : Int) < (M : Int)) = false := decide_eq_false p1
            have p1n : decide (60 < M) = false := decide_eq_false (by omega)
            by_cases p2 : (300 : Int) < (n16.size : Int)
            · have p2d : decide ((300 : Int) < (n16.size : Int)) = true := decide_eq_true p2
              have p2n : decide (300 < n16.size) = true := decide_eq_true (by omega)
              go_wp2
              go_ret
              exact ⟨true, rfl, (fun q => by cases q), HB2.out⟩
            · have p2d : decide ((300 : Int) < (n16.size : Int)) = false := decide_eq_false p2
              have p2n : decide (300 < n16.size) = false := decide_eq_false (by omega)
              by_cases p3 : (300 : Int) < (n17.size : Int)
              · have p3d : decide ((300 : Int) < (n17.size : Int)) = true := decide_eq_true p3
                have p3n : decide (300 < n17.size) = true := decide_eq_true (by omega)
                go_wp2
                go_ret
                exact ⟨true, rfl, (fun q => by cases q), HB2.out⟩
              · have p3d : decide ((300 : Int) < (n17.size : Int)) = false := decide_eq_false p3
                have p3n : decide (300 < n17.size) = false := decide_eq_false (by omega)
                have HF2 := Lib.hid (HTK.out ⟨by omega, by omega⟩)
                go_wp2
                go_roundw
                case rel => exact ⟨k + 1, by omega, by omega, by go_num, HB2, HF2⟩
                case measure => simp [intOf]; omega
      · have hi2 : ¬ (k : Int) ≤ 40 := by omega
        have hd2 : decide ((k : Int) ≤ 40) = false := decide_eq_false hi2
        have hd2n : decide (k ≤ 40) = false := decide_eq_false h40
        have hi3 : (40 : Int) < (N : Int) := by omega
        have hd3 : decide ((40 : Int) < (N : Int)) = true := decide_eq_true hi3
        have hd3n : decide (40 < N) = true := decide_eq_true (by omega)
        go_wp2
        go_ret
        exact ⟨true, rfl, (fun q => by cases q), hB.out⟩
    · have e : k = N := by omega
      subst e
      have hF2 := hF.out
      rw [List.take_of_length_le (by rw [HN.out]; exact Nat.le_refl _)] at hF2
      have HF2 := Lib.hid hF2
      clear hF hF2
      by_cases h40 : k ≤ 40
      · have hi3 : ¬ (40 : Int) < (k : Int) := by omega
        have hd3 : decide ((40 : Int) < (k : Int)) = false := decide_eq_false hi3
        have hd3n : decide (40 < k) = false := decide_eq_false (by omega)
        go_wp2
        go_ret
        exact ⟨false, Lib.hid (by first | rfl | simp [hd3, hd3n]), (fun _ => ⟨by rw [HN.out]; exact h40, HF2.out⟩), hB.out⟩
      · have hi3 : (40 : Int) < (k : Int) := by omega
        have hd3 : decide ((40 : Int) < (k : Int)) = true := decide_eq_true hi3
        have hd3n : decide (40 < k) = true := decide_eq_true (by omega)
        go_wp2
        go_ret
        exact ⟨true, Lib.hid (by first | rfl | simp [hd3, hd3n]), (fun q => by cases q), hB.out⟩
theorem overA1_any {w : World} {cs : Array Value} {x : Mg} (h : MsgIs w (.agg cs) x) (g : Nat) (hg : w.heap.size = g) : Calls Tryz.prog 12 #[.slice (some ⟨g, 0, none⟩) 1 1] (w.alloc (.cells cs 54)) (OvA [x] (w.alloc (.cells cs 54))) := by
  obtain ⟨cs', e, u, u1, u2, u3, h⟩ := h
  injection e with e
  subst e
  have hl : cs.toList.length = 27 := by rw [h.cs]; rfl
  obtain ⟨rs, hr⟩ := rowIs_lit (K := KM) (S := msS) rfl w [cs.toList] [x] rfl (by intro c hc; simp at hc; subst hc; exact hl) (fun j q1 q2 => by
    have hj : j = 0 := by simp at q1; exact q1
    subst hj
    exact ⟨u, u1, u2, u3, h⟩) 54 1 1 rfl (by unfold maxLen; omega) g hg
  have e1 : ([cs.toList].flatten).toArray = cs := by simp
  rw [e1] at hr
  exact overA_any _ rs [x] _ hr
theorem overA2_any {w : World} {cs ds : List Value} {x y : Mg} (h : MsgIs w (.agg cs.toArray) x) (k : MsgIs w (.agg ds.toArray) y) (es : List Value) (he : cs ++ ds = es) (g : Nat) (hg : w.heap.size = g) : Calls Tryz.prog 12 #[.slice (some ⟨g, 0, none⟩) 2 2] (w.alloc (.cells es.toArray 54)) (OvA [x, y] (w.alloc (.cells es.toArray 54))) := by
  subst he
  obtain ⟨cs', e, u, u1, u2, u3, h⟩ := h
  injection e with e
  subst e
  obtain ⟨ds', e, v, v1, v2, v3, k⟩ := k
  injection e with e
  subst e
  simp only [List.toList_toArray] at h k
  have hl : cs.length = 27 := by rw [h.cs]; rfl
  have hk : ds.length = 27 := by rw [k.cs]; rfl
  obtain ⟨rs, hr⟩ := rowIs_lit (K := KM) (S := msS) rfl w [cs, ds] [x, y] rfl (by intro c hc; simp at hc; rcases hc with rfl | rfl; exact hl; exact hk) (fun j q1 q2 => by
    have hj : j = 0 ∨ j = 1 := by simp at q1; omega
    rcases hj with rfl | rfl
    · exact ⟨u, u1, u2, u3, h⟩
    · exact ⟨v, v1, v2, v3, k⟩) 54 2 2 rfl (by unfold maxLen; omega) g hg
  have e1 : [cs, ds].flatten = cs ++ ds := by simp
  rw [e1] at hr
  exact overA_any _ rs [x, y] _ hr
end Go.Proofs.YtchhcaoondfpiaaGreat
namespace Go.Proofs.YtchhcaoondfpiaaGreat
open Go.RowKit Go.Sort
open Go.WideMaps
set_option linter.unusedSimpArgs false
set_option linter.unusedVariables false
set_option maxRecDepth 100000

/-- A message that is looked at. -/
def SmMg (m : Mg) : Prop := m.ins.at'.2.length ≤ 60 ∧ m.ins.cm.pa.size ≤ 300
/-- A book behind i messages: nothing in it is large. -/
structure SmBk (b : BSt) (i : Nat) : Prop where
  len : b.l.length ≤ i
  each : ∀ e ∈ b.l, okL e.2.at'.2 ∧ e.2.at'.2.length ≤ 60 + i ∧ e.2.at'.1 ≤ 1099511627776 + i ∧ e.2.cm.pa.size ≤ 300
theorem SmBk.nil (node ep : Int) (ns : List Int) : SmBk ⟨node, ep, ns, []⟩ 0 := ⟨Nat.le_refl _, fun e he => by cases he⟩
theorem setL_len2 {l : List (I3 × Ist)} (h : RisesB l) (id : I3) (x : Ist) : (setL l id x).length ≤ l.length + 1 := by
  rw [setL_len h]
  split <;> omega
theorem SmBk.set {b : BSt} {i : Nat} (h : SmBk b i) (hr : RisesB b.l) {id : I3} {x : Ist} (h1 : okL x.at'.2) (h2 : x.at'.2.length ≤ 60 + i) (h3 : x.at'.1 ≤ 1099511627776 + (i : Int) + 1) (h4 : x.cm.pa.size ≤ 300) : SmBk { b with l := setL b.l id x } (i + 1) := by
  refine ⟨?_, fun e he => ?_⟩
  · have := setL_len2 hr id x
    have := h.len
    show (setL b.l id x).length ≤ i + 1
    omega
  · rcases mem_setL.1 he with q | ⟨q, _⟩
    · subst q
      exact ⟨h1, by simp only; omega, by simp only; push_cast; omega, h4⟩
    · obtain ⟨k1, k2, k3, k4⟩ := h.each e q
      exact ⟨k1, by omega, by push_cast; omega, k4⟩
theorem SmBk.mono {b : BSt} {i : Nat} (h : SmBk b i) : SmBk b (i + 1) :=
  ⟨Nat.le_succ_of_le h.len, fun e he => by obtain ⟨k1, k2, k3, k4⟩ := h.each e he; exact ⟨k1, by omega, by push_cast; omega, k4⟩⟩
theorem SmBk.get {b : BSt} {i : Nat} (h : SmBk b i) (hr : RisesB b.l) (id : I3) : okL (getL b.l id).at'.2 ∧ (getL b.l id).at'.2.length ≤ 60 + i ∧ (getL b.l id).at'.1 ≤ 1099511627776 + i ∧ (getL b.l id).cm.pa.size ≤ 300 := by
  by_cases q : ∃ y, (id, y) ∈ b.l
  · obtain ⟨y, hy⟩ := q
    rw [getL_mem hr hy]
    exact h.each _ hy
  · rw [getL_none fun y hy => q ⟨y, hy⟩]
    refine ⟨fun x hx => (by cases hx), Nat.zero_le _, ?_, ?_⟩
    · show (0 : Int) ≤ _
      omega
    · show ByteArray.empty.size ≤ 300
      decide
theorem SmBk.known {b : BSt} {i : Nat} (h : SmBk b i) (hi : i ≤ 100) : ∀ k ∈ knB b.l, k.cm.pa.size ≤ 1000 ∧ k.a.1 ≤ 1125899906842624 := by
  intro k hk
  unfold knB at hk
  obtain ⟨e, he, rfl⟩ := List.mem_map.1 hk
  obtain ⟨k1, k2, k3, k4⟩ := h.each e (List.mem_filter.1 he).1
  exact ⟨by simp only; omega, by simp only; omega⟩
theorem SmBk.kn2 {b : BSt} {i : Nat} (h : SmBk b i) (hi : i ≤ 100) : ∀ k ∈ knB b.l, k.a.2.length ≤ 100000 := by
  intro k hk
  unfold knB at hk
  obtain ⟨e, he, rfl⟩ := List.mem_map.1 hk
  obtain ⟨k1, k2, k3, k4⟩ := h.each e (List.mem_filter.1 he).1
  simp only
  omega
theorem mxS_le (M : Int) (hM : 0 ≤ M) (l : List Int) (h : ∀ x ∈ l, x ≤ M) : mxS l ≤ M := (mxS_bound M hM l h).2
theorem lcl_small {b : BSt} {i : Nat} (h : SmBk b i) (hk : okB b.l) (id : I3) (c : CM) : okL (lclA (knB b.l) id c).2 ∧ (lclA (knB b.l) id c).2.length ≤ i ∧ (lclA (knB b.l) id c).1 ≤ 1099511627776 + (i : Int) + 1 := by
  have hl := knB_len b.l
  have hlen := h.len
  refine ⟨?_, ?_, ?_⟩
  · by_cases q : (knB b.l).length ≤ 800
    · exact (lcl_few hk rfl q).2
    · intro x hx
      obtain ⟨k, hkm, rfl⟩ := List.mem_map.1 ((mem_clnI _ _).1 hx)
      have h1 := (List.mem_filter.1 hkm).1
      unfold knB at h1
      obtain ⟨e, he, rfl⟩ := List.mem_map.1 h1
      exact hk e (List.mem_filter.1 he).1
  · show (clnI (((knB b.l).filter (matK id c)).map (·.id))).length ≤ i
    have h1 := clnI_len (((knB b.l).filter (matK id c)).map (·.id))
    rw [List.length_map] at h1
    have h2 := List.length_filter_le (matK id c) (knB b.l)
    omega
  · show mxS (((knB b.l).filter (matK id c)).map (·.a.1)) + 1 ≤ _
    have h1 := mxS_le (1099511627776 + (i : Int)) (by omega) (((knB b.l).filter (matK id c)).map (·.a.1)) (fun x hx => by
      obtain ⟨k, hkm, rfl⟩ := List.mem_map.1 hx
      have h1 := (List.mem_filter.1 hkm).1
      unfold knB at h1
      obtain ⟨e, he, rfl⟩ := List.mem_map.1 h1
      exact (h.each e (List.mem_filter.1 he).1).2.2.1)
    omega
theorem right_seq {b : BSt} {m : Mg} (h : rightB b m = true) : m.ins.at'.1 ≤ 1099511627776 := by
  unfold rightB at h
  simp only [Bool.and_eq_true, decide_eq_true_eq] at h
  have hva := (vldA_iff m.id m.ins.at').1 h.2.2.2.2.2.2.2.2
  exact hva.1.2
theorem hear_small {b : BSt} {i : Nat} (h : SmBk b i) (hr : RisesB b.l) (hk : okB b.l) {m : Mg} (hm : SmMg m) (ho : okL m.ins.at'.2) : SmBk (hearB lclA b m).1 (i + 1) := by
  have hg := h.get hr m.id
  unfold hearB
  split
  · exact h.mono
  rename_i h1
  have hrt : rightB b m = true := by
    cases q : rightB b m with
    | true => rfl
    | false => exact absurd (.inl q) h1
  have hsq := right_seq hrt
  split
  · split
    · exact h.set hr ho (by have := hm.1; simp only; omega) (by simp only; omega) hm.2
    · exact h.mono
  split
  · exact h.mono
  split
  · exact h.mono
  unfold voteB
  split
  · split
    · exact h.mono
    · split
      · have hl := lcl_small h hk m.id m.ins.cm
        refine h.set hr ?_ ?_ ?_ hm.2
        · rw [mrg_eq]
          exact okL_cln (okL_app ho hl.1)
        · have h2 := mrg_len m.ins.at' (lclA (knB b.l) m.id m.ins.cm)
          have := hm.1
          have := hl.2.1
          simp only
          omega
        · rw [mrg_eq]
          have := hl.2.2
          simp only
          split <;> omega
      · exact h.mono
  split
  · exact h.set hr ho (by have := hm.1; simp only; omega) (by simp only; omega) hm.2
  · exact h.set hr hg.1 hg.2.1 (by have := hg.2.2.1; simp only; omega) hg.2.2.2
theorem hear_keys {b : BSt} (hk : okB b.l) {m : Mg} (ho : okI m.id) : okB (hearB lclA b m).1.l := by
  unfold hearB
  split
  · exact hk
  split
  · split
    · exact hk.set ho _
    · exact hk
  split
  · exact hk
  split
  · exact hk
  unfold voteB
  split
  · split
    · exact hk
    · split
      · exact hk.set ho _
      · exact hk
  split
  · exact hk.set ho _
  · exact hk.set ho _
/-- All messages heard, one by one. -/
def heardB (b : BSt) (l : List Mg) : BSt := l.foldl (fun b m => (hearB lclA b m).1) b
theorem heard_snoc (b : BSt) (l : List Mg) (m : Mg) : heardB b (l ++ [m]) = (hearB lclA (heardB b l) m).1 := by simp [heardB]
/-- A book at a block, behind i messages. -/
structure BkIn (W : World) (B g mb i : Nat) (b : BSt) (w : World) : Prop where
  at' : BkAt w B g mb i b
  sm : SmBk b i
  gr : Below B W w
theorem BkIn.on {W w w' : World} {B g mb i : Nat} {b : BSt} (h : BkIn W B g mb i b w) (hb : Below w.heap.size w w') (hB : B ≤ w.heap.size) : BkIn W B g mb i b w' := ⟨h.at'.below hb, h.sm, h.gr.trans (hb.mono hB)⟩
def HrQ (R : BSt × List Mg) (W : World) (B g mb i : Nat) (w : World) (e : Ending) (w' : World) : Prop := ∃ v, Hid (e = .returned v) ∧ BkIn W B g mb (i + 1) R.1 w' ∧ w.grownBy w' (some mb) ∧ AnsIs w' w.heap.size v R.2
/-- A message is heard by a book that is not large. -/
theorem hear_in {W w : World} {B g mb i : Nat} {b : BSt} (h : BkIn W B g mb i b w) (hi : i ≤ 100) (hn : b.ns.length ≤ 1000) (hml : Tc.ML w) {v : Value} {m : Mg} (hm : MgA w v m) (hs : SmMg m) : Calls Tryz.prog 16 #[bP g, v] w (HrQ (hearB lclA b m) W B g mb i w) := by
  have hok : okL m.ins.at'.2 := by obtain ⟨_, _, _, _, _, _, _, _, _, _, _, _, _, q, _⟩ := hm; exact q
  have hg := h.sm.get h.at'.rise m.id
  refine (bhear_any h.at' hm hn (by omega) hml (fun e he => (h.sm.each e he).1) (h.sm.known hi) (by have := hs.2; omega) (by have := hs.1; omega) (by have := hg.2.1; omega)).mono ?_
  rintro e w' ⟨v', he, h1, h2, h3⟩
  exact ⟨v', he, ⟨h1, hear_small h.sm h.at'.rise h.at'.keys hs hok, h.gr.grown h2 (Nat.le_trans h.at'.lo.1 (Nat.le_of_lt h.at'.lt)) (fun k e => by cases e; exact h.at'.lo.2)⟩, h2, h3⟩
theorem get_in {W w : World} {B g mb i : Nat} {b : BSt} (h : BkIn W B g mb i b w) (hi : i ≤ 100) {id : I3} (hid : okI id) : Calls Tryz.prog 20 #[bP g, idV id] w (InO (getL b.l id) w) :=
  bget_any h.at' hid (by have := (h.sm.get h.at'.rise id).2.1; omega)
theorem ml_out {w w' : World} {bk : Nat} (h : Tc.ML w) (hg : w.grownBy w' (some bk)) (hne : ∀ g cs T fr, w.heap[g]? = some (.cells cs T fr) → g ≠ bk) : Tc.ML w' := by
  obtain ⟨m, hm⟩ := h
  refine ⟨m, hg.cell hm ?_⟩
  intro e
  have e2 := Option.some.inj e
  cases hh : w.heap[0]? with
  | none => simp [World.cell?, hh] at hm
  | some o =>
    cases o with
    | cells cs T fr => exact hne _ cs T fr hh e2
    | _ => simp [World.cell?, hh] at hm
end Go.Proofs.YtchhcaoondfpiaaGreat
namespace Go.Proofs.YtchhcaoondfpiaaGreat
open Go.RowKit Go.Sort
open Go.WideMaps
set_option linter.unusedSimpArgs false
set_option linter.unusedVariables false
set_option maxRecDepth 100000

theorem it_threeA (w : World) (x y z : Int) (e : TypeId) : It (w.alloc (.cells #[.int .i64 x, .int .i64 y, .int .i64 z] e)) (.slice (some ⟨w.heap.size, 0, none⟩) 3 3) [x, y, z] := by
  refine ⟨some ⟨w.heap.size, 0, none⟩, 3, rfl, ⟨by simp, .inr ⟨w.heap.size, 0, rfl, by simp, fun i hi => ?_⟩⟩, (fun e => by cases e), by simp, by omega⟩
  have h := (Bk.new w e [.int .i64 x, .int .i64 y, .int .i64 z]).cell (0 + i)
  obtain rfl | rfl | rfl : i = 0 ∨ i = 1 ∨ i = 2 := by simp at hi; omega
  · exact h
  · exact h
  · exact h
def wb0 : BSt := ⟨2, 0, [1, 2, 3], []⟩
def wx1 : Ist := ⟨1, (0, 1), (0, 1), ⟨1, 1, 3, ⟨#[47, 97]⟩, ⟨#[]⟩, 0, 0, 0⟩, (1, [])⟩
def wx2 : Ist := ⟨1, (1, 2), (0, 1), ⟨1, 1, 3, ⟨#[47, 97]⟩, ⟨#[]⟩, 0, 0, 0⟩, (1, [])⟩
def wm1 : Mg := ⟨0, 1, 2, (0, 1, 0), (0, 1), ⟨0, (0, 0), (0, 0), ⟨1, 1, 3, ⟨#[47, 97]⟩, ⟨#[]⟩, 0, 0, 0⟩, (0, [])⟩, snp0⟩
def wm2 : Mg := ⟨5, 3, 2, (0, 1, 0), (1, 2), ⟨0, (0, 0), (0, 0), ⟨0, 0, 0, ⟨#[]⟩, ⟨#[]⟩, 0, 0, 0⟩, (0, [])⟩, snp0⟩
def wm3 : Mg := ⟨2, 1, 2, (0, 1, 0), (0, 1), ⟨0, (0, 0), (0, 0), ⟨1, 1, 3, ⟨#[47, 97]⟩, ⟨#[]⟩, 0, 0, 0⟩, (0, [])⟩, snp0⟩
def wb1 : BSt := ⟨2, 0, [1, 2, 3], [((0, 1, 0), wx1)]⟩
def wb2 : BSt := ⟨2, 0, [1, 2, 3], [((0, 1, 0), wx2)]⟩
theorem w_first : hearB lclA wb0 wm1 = (wb1, [ansB wb0 1 wm1 (0, 1) wx1]) := by kernel_rfl
theorem w_second : hearB lclA wb1 wm2 = (wb2, [ansB wb0 6 wm2 (1, 2) wx2]) := by kernel_rfl
theorem w_third : hearB lclA wb2 wm3 = (wb2, [ansB wb0 7 wm3 (1, 2) in0]) := by kernel_rfl
theorem w_right : rightB wb2 wm3 = true := by kernel_rfl
theorem w_get : getL wb2.l (0, 1, 0) = wx2 := by kernel_rfl
theorem w_known : knB wb2.l = [⟨(0, 1, 0), ⟨1, 1, 3, ⟨#[47, 97]⟩, ⟨#[]⟩, 0, 0, 0⟩, (1, [])⟩] := by kernel_rfl
theorem w_ids : okI (0, 1, 0) := ⟨by rfl, by rfl, by rfl⟩
theorem mga_lit (w : World) (m : Mg) (h : m.ins.at'.2 = []) (hi : okI m.id) : MgA w (.agg (msE m (.slice none 0 0) (.slice none 0 0) (.slice none 0 0) (.slice none 0 0)).toArray) m := by
  refine ⟨none, 0, none, 0, 0, none, 0, 0, none, 0, 0, ?_, ?_, ?_, hi⟩
  · rw [h]; rfl
  · rw [h]; exact Knd.Rd.nil w
  · rw [h]; intro x hx; cases hx
/-- One answer alone. -/
theorem ans_one {w : World} {N : Nat} {v : Value} {M : Mg} (h : AnsIs w N v [M]) : ∃ g' u, v = .slice (some ⟨g', 0, none⟩) 1 1 ∧ Bk w g' 54 (msE M u (.slice none 0 0) (.slice none 0 0) (.slice none 0 0)) ∧ IK.Own w N u M.ins.at'.2 ∧ N ≤ g' := by
  rcases h with ⟨e, _⟩ | ⟨M2, g', u, e, h1, h2, h3, h4⟩
  · cases e
  · cases e
    exact ⟨g', u, h1, h2, h3, h4⟩
theorem wmga_1 (w : World) : MgA w (.agg #[.int .i64 0, .int .i64 1, .int .i64 2, .int .i64 0, .int .i64 1, .int .i64 0, .int .i64 0, .int .i64 1, .int .i64 0, .int .i64 0, .int .i64 0, .int .i64 0, .int .i64 0, .int .i64 1, .int .i64 1, .int .i64 3, .string ⟨#[47, 97]⟩, .string ⟨#[]⟩, .int .i64 0, .int .i64 0, .int .i64 0, .int .i64 0, .slice none 0 0, .int .i64 0, .slice none 0 0, .slice none 0 0, .slice none 0 0]) wm1 :=
  ⟨none, 0, none, 0, 0, none, 0, 0, none, 0, 0, by kernel_rfl, Knd.Rd.nil w, (fun x hx => by cases hx), w_ids⟩
theorem wsm_1 : SmMg wm1 := ⟨by show ([] : List I3).length ≤ 60; decide, by show ByteArray.size _ ≤ 300; decide⟩
theorem whear_1 {W w : World} {B g mb i : Nat} (h : BkIn W B g mb i wb0 w) (hi : i ≤ 100) (hml : Tc.ML w) : Calls Tryz.prog 16 #[bP g, .agg #[.int .i64 0, .int .i64 1, .int .i64 2, .int .i64 0, .int .i64 1, .int .i64 0, .int .i64 0, .int .i64 1, .int .i64 0, .int .i64 0, .int .i64 0, .int .i64 0, .int .i64 0, .int .i64 1, .int .i64 1, .int .i64 3, .string ⟨#[47, 97]⟩, .string ⟨#[]⟩, .int .i64 0, .int .i64 0, .int .i64 0, .int .i64 0, .slice none 0 0, .int .i64 0, .slice none 0 0, .slice none 0 0, .slice none 0 0]] w (HrQ (wb1, [ansB wb0 1 wm1 (0, 1) wx1]) W B g mb i w) := by
  have q := hear_in h hi (by show ([1, 2, 3] : List Int).length ≤ 1000; decide) hml (wmga_1 w) wsm_1
  rw [w_first] at q
  exact q
theorem wmga_2 (w : World) : MgA w (.agg #[.int .i64 5, .int .i64 3, .int .i64 2, .int .i64 0, .int .i64 1, .int .i64 0, .int .i64 1, .int .i64 2, .int .i64 0, .int .i64 0, .int .i64 0, .int .i64 0, .int .i64 0, .int .i64 0, .int .i64 0, .int .i64 0, .string ⟨#[]⟩, .string ⟨#[]⟩, .int .i64 0, .int .i64 0, .int .i64 0, .int .i64 0, .slice none 0 0, .int .i64 0, .slice none 0 0, .slice none 0 0, .slice none 0 0]) wm2 :=
  ⟨none, 0, none, 0, 0, none, 0, 0, none, 0, 0, by kernel_rfl, Knd.Rd.nil w, (fun x hx => by cases hx), w_ids⟩
theorem wsm_2 : SmMg wm2 := ⟨by show ([] : List I3).length ≤ 60; decide, by show ByteArray.size _ ≤ 300; decide⟩
theorem whear_2 {W w : World} {B g mb i : Nat} (h : BkIn W B g mb i wb1 w) (hi : i ≤ 100) (hml : Tc.ML w) : Calls Tryz.prog 16 #[bP g, .agg #[.int .i64 5, .int .i64 3, .int .i64 2, .int .i64 0, .int .i64 1, .int .i64 0, .int .i64 1, .int .i64 2, .int .i64 0, .int .i64 0, .int .i64 0, .int .i64 0, .int .i64 0, .int .i64 0, .int .i64 0, .int .i64 0, .string ⟨#[]⟩, .string ⟨#[]⟩, .int .i64 0, .int .i64 0, .int .i64 0, .int .i64 0, .slice none 0 0, .int .i64 0, .slice none 0 0, .slice none 0 0, .slice none 0 0]] w (HrQ (wb2, [ansB wb0 6 wm2 (1, 2) wx2]) W B g mb i w) := by
  have q := hear_in h hi (by show ([1, 2, 3] : List Int).length ≤ 1000; decide) hml (wmga_2 w) wsm_2
  rw [w_second] at q
  exact q
theorem wmga_3 (w : World) : MgA w (.agg #[.int .i64 2, .int .i64 1, .int .i64 2, .int .i64 0, .int .i64 1, .int .i64 0, .int .i64 0, .int .i64 1, .int .i64 0, .int .i64 0, .int .i64 0, .int .i64 0, .int .i64 0, .int .i64 1, .int .i64 1, .int .i64 3, .string ⟨#[47, 97]⟩, .string ⟨#[]⟩, .int .i64 0, .int .i64 0, .int .i64 0, .int .i64 0, .slice none 0 0, .int .i64 0, .slice none 0 0, .slice none 0 0, .slice none 0 0]) wm3 :=
  ⟨none, 0, none, 0, 0, none, 0, 0, none, 0, 0, by kernel_rfl, Knd.Rd.nil w, (fun x hx => by cases hx), w_ids⟩
theorem wsm_3 : SmMg wm3 := ⟨by show ([] : List I3).length ≤ 60; decide, by show ByteArray.size _ ≤ 300; decide⟩
theorem whear_3 {W w : World} {B g mb i : Nat} (h : BkIn W B g mb i wb2 w) (hi : i ≤ 100) (hml : Tc.ML w) : Calls Tryz.prog 16 #[bP g, .agg #[.int .i64 2, .int .i64 1, .int .i64 2, .int .i64 0, .int .i64 1, .int .i64 0, .int .i64 0, .int .i64 1, .int .i64 0, .int .i64 0, .int .i64 0, .int .i64 0, .int .i64 0, .int .i64 1, .int .i64 1, .int .i64 3, .string ⟨#[47, 97]⟩, .string ⟨#[]⟩, .int .i64 0, .int .i64 0, .int .i64 0, .int .i64 0, .slice none 0 0, .int .i64 0, .slice none 0 0, .slice none 0 0, .slice none 0 0]] w (HrQ (wb2, [ansB wb0 7 wm3 (1, 2) in0]) W B g mb i w) := by
  have q := hear_in h hi (by show ([1, 2, 3] : List Int).length ≤ 1000; decide) hml (wmga_3 w) wsm_3
  rw [w_third] at q
  exact q
theorem grown_setCell (w : World) (b o : Nat) (u : Value) : w.grownBy (w.setCell ⟨b, o, none⟩ u) (some b) :=
  ⟨rfl, rfl, rfl, by simp, fun k _ hn => Below.heap_setCell _ _ _ k (fun e => hn (by rw [e]))⟩
theorem wget_any {W w : World} {B g mb i : Nat} (h : BkIn W B g mb i wb2 w) (hi : i ≤ 100) : Calls Tryz.prog 20 #[bP g, .agg #[.int .i64 0, .int .i64 1, .int .i64 0]] w (fun e w' => ∃ a c, Hid (e = .returned (.agg #[.int .i64 1, .int .i64 1, .int .i64 2, .int .i64 0, .int .i64 1, .int .i64 1, .int .i64 1, .int .i64 3, .string ⟨#[47, 97]⟩, .string ⟨#[]⟩, .int .i64 0, .int .i64 0, .int .i64 0, .int .i64 1, .slice a 0 c])) ∧ Below w.heap.size w w') := by
  have q := get_in h hi (id := (0, 1, 0)) w_ids
  rw [w_get] at q
  refine q.mono ?_
  rintro e w' ⟨v', he, ho, hb⟩
  obtain ⟨a, c, hv⟩ := ho.slice
  rw [hv] at he
  exact ⟨a, c, he, hb⟩
set_option maxHeartbeats 8000000 in
theorem works_any (W : World) (hml : Tc.ML W) : Calls Tryz.prog 11 #[] W fun e w' => e = .returned (.bool true) ∧ Below W.heap.size W w' := by
  have hB0 : Below W.heap.size W (W.alloc (.cells #[.int .i64 1, .int .i64 2, .int .i64 3] 3)) := (Below.refl _ _).alloc (Nat.le_refl _) _
  have HNew := Lib.hid (bnew_any 2 0 (some ⟨W.heap.size, 0, none⟩) 3 [1, 2, 3] _ (it_threeA W 1 2 3 3) (by decide))
  have HB0 := Lib.hid hB0
  have HML := Lib.hid hml
  clear hB0 hml
  go_enter Tryz.func11, Tryz.ntmps11
  go_wp2_with fail
  refine HNew.out.mono ?_
  rintro e w1 ⟨g, mb, he, hB, hb⟩
  rw [he.out]
  have HW1 : Hid (Below W.heap.size W w1) := Lib.hid (HB0.out.trans (hb.mono HB0.out.size))
  have HK1 : Hid (BkIn W W.heap.size g mb 0 wb0 w1) := Lib.hid ⟨⟨hB.box.elim fun vn q => ⟨vn, q.1, q.2.base HB0.out.size⟩, hB.map, ⟨Nat.le_trans HB0.out.size hB.lo.1, Nat.le_trans HB0.out.size hB.lo.2⟩, hB.rise, hB.keys⟩, SmBk.nil _ _ _, HW1.out⟩
  clear he hB hb HNew
  have HZm := Lib.hid (Bk.new w1 54 [.int .i64 0, .int .i64 0, .int .i64 0, .int .i64 0, .int .i64 0, .int .i64 0, .int .i64 0, .int .i64 0, .int .i64 0, .int .i64 0, .int .i64 0, .int .i64 0, .int .i64 0, .int .i64 0, .int .i64 0, .int .i64 0, .string ⟨#[]⟩, .string ⟨#[]⟩, .int .i64 0, .int .i64 0, .int .i64 0, .int .i64 0, .slice none 0 0, .int .i64 0, .slice none 0 0, .slice none 0 0, .slice none 0 0])
  have HONE1 : Hid ((#[.int .i64 0, .int .i64 1, .int .i64 2, .int .i64 0, .int .i64 1, .int .i64 0, .int .i64 0, .int .i64 1, .int .i64 0, .int .i64 0, .int .i64 0, .int .i64 0, .int .i64 0, .int .i64 1, .int .i64 1, .int .i64 3, .string ⟨#[47, 97]⟩, .string ⟨#[]⟩, .int .i64 0, .int .i64 0, .int .i64 0, .int .i64 0, .slice none 0 0, .int .i64 0, .slice none 0 0, .slice none 0 0, .slice none 0 0] : Array Value).all (·.oneCell') = true) := Lib.hid (all_toA (by rfl))
  have HS1 : Hid (Bk ((w1.alloc (.cells #[.int .i64 0, .int .i64 0, .int .i64 0, .int .i64 0, .int .i64 0, .int .i64 0, .int .i64 0, .int .i64 0, .int .i64 0, .int .i64 0, .int .i64 0, .int .i64 0, .int .i64 0, .int .i64 0, .int .i64 0, .int .i64 0, .string ⟨#[]⟩, .string ⟨#[]⟩, .int .i64 0, .int .i64 0, .int .i64 0, .int .i64 0, .slice none 0 0, .int .i64 0, .slice none 0 0, .slice none 0 0, .slice none 0 0] 54)).setRow w1.heap.size #[.int .i64 0, .int .i64 1, .int .i64 2, .int .i64 0, .int .i64 1, .int .i64 0, .int .i64 0, .int .i64 1, .int .i64 0, .int .i64 0, .int .i64 0, .int .i64 0, .int .i64 0, .int .i64 1, .int .i64 1, .int .i64 3, .string ⟨#[47, 97]⟩, .string ⟨#[]⟩, .int .i64 0, .int .i64 0, .int .i64 0, .int .i64 0, .slice none 0 0, .int .i64 0, .slice none 0 0, .slice none 0 0, .slice none 0 0]) w1.heap.size 54 [.int .i64 0, .int .i64 1, .int .i64 2, .int .i64 0, .int .i64 1, .int .i64 0, .int .i64 0, .int .i64 1, .int .i64 0, .int .i64 0, .int .i64 0, .int .i64 0, .int .i64 0, .int .i64 1, .int .i64 1, .int .i64 3, .string ⟨#[47, 97]⟩, .string ⟨#[]⟩, .int .i64 0, .int .i64 0, .int .i64 0, .int .i64 0, .slice none 0 0, .int .i64 0, .slice none 0 0, .slice none 0 0, .slice none 0 0]) := Lib.hid (bk_setRowA HZm.out)
  go_wp2_with (first
    | refine wpList_store_row rfl 54 _ _ rfl w1.heap.size rfl #[.int .i64 0, .int .i64 1, .int .i64 2, .int .i64 0, .int .i64 1, .int .i64 0, .int .i64 0, .int .i64 1, .int .i64 0, .int .i64 0, .int .i64 0, .int .i64 0, .int .i64 0, .int .i64 1, .int .i64 1, .int .i64 3, .string ⟨#[47, 97]⟩, .string ⟨#[]⟩, .int .i64 0, .int .i64 0, .int .i64 0, .int .i64 0, .slice none 0 0, .int .i64 0, .slice none 0 0, .slice none 0 0, .slice none 0 0] rfl _ 54 HZm.out (by kernel_rfl) rfl HONE1.out ?_
    | refine wpList_load_rowG rfl _ _ rfl w1.heap.size rfl 54 _ (0, 0) _ HS1.out Tryz.underlying54 rfl (by kernel_rfl) ?_
    | fail)
  obtain ⟨w2, hw2⟩ : ∃ w2, (w1.alloc (.cells #[.int .i64 0, .int .i64 0, .int .i64 0, .int .i64 0, .int .i64 0, .int .i64 0, .int .i64 0, .int .i64 0, .int .i64 0, .int .i64 0, .int .i64 0, .int .i64 0, .int .i64 0, .int .i64 0, .int .i64 0, .int .i64 0, .string ⟨#[]⟩, .string ⟨#[]⟩, .int .i64 0, .int .i64 0, .int .i64 0, .int .i64 0, .slice none 0 0, .int .i64 0, .slice none 0 0, .slice none 0 0, .slice none 0 0] 54)).setRow w1.heap.size #[.int .i64 0, .int .i64 1, .int .i64 2, .int .i64 0, .int .i64 1, .int .i64 0, .int .i64 0, .int .i64 1, .int .i64 0, .int .i64 0, .int .i64 0, .int .i64 0, .int .i64 0, .int .i64 1, .int .i64 1, .int .i64 3, .string ⟨#[47, 97]⟩, .string ⟨#[]⟩, .int .i64 0, .int .i64 0, .int .i64 0, .int .i64 0, .slice none 0 0, .int .i64 0, .slice none 0 0, .slice none 0 0, .slice none 0 0] = w2 := ⟨_, rfl⟩
  have hb2 : Below w1.heap.size w1 w2 := by rw [← hw2]; exact below_setRow ((Below.refl _ _).alloc (Nat.le_refl _) _) (Nat.le_refl _) _
  rw [hw2] at HS1 ⊢
  clear hw2 HZm
  obtain ⟨bx, hbx⟩ : ∃ q, w1.heap.size = q := ⟨_, rfl⟩
  have HBX : Hid (W.heap.size ≤ bx) := Lib.hid (by rw [← hbx]; exact HW1.out.size)
  have HK2 := Lib.hid (HK1.out.on hb2 HW1.out.size)
  rw [hbx] at HS1 ⊢
  clear hbx hb2 HK1
  refine (whear_1 HK2.out (by omega) (HML.out.below HK2.out.gr)).mono ?_
  rintro e w3 ⟨x3, he, hk3, hg3, ha3⟩
  rw [he.out]
  obtain ⟨gx, ux, rfl, hx1, hx2, hx3⟩ := ans_one ha3
  have hxb : bx < gx := Nat.lt_of_lt_of_le HS1.out.lt hx3
  have HK3 := Lib.hid hk3
  have HM3 : Hid (Bk w3 bx 54 [.int .i64 0, .int .i64 1, .int .i64 2, .int .i64 0, .int .i64 1, .int .i64 0, .int .i64 0, .int .i64 1, .int .i64 0, .int .i64 0, .int .i64 0, .int .i64 0, .int .i64 0, .int .i64 1, .int .i64 1, .int .i64 3, .string ⟨#[47, 97]⟩, .string ⟨#[]⟩, .int .i64 0, .int .i64 0, .int .i64 0, .int .i64 0, .slice none 0 0, .int .i64 0, .slice none 0 0, .slice none 0 0, .slice none 0 0]) := Lib.hid ((hg3.block _ HS1.out.lt (by simpa using HK2.out.at'.blkNe _ _ _ _ HS1.out)).trans HS1.out)
  obtain ⟨xa, xc, hxv⟩ := hx2.slice
  have HX3 := Lib.hid hx1
  clear he hk3 hg3 ha3 hx1 hx2 HS1 HK2
  have m3 := HM3.out.cell 3
  have m4 := HM3.out.cell 4
  have m5 := HM3.out.cell 5
  simp only [List.getElem?_cons_zero, List.getElem?_cons_succ] at m3 m4 m5
  go_wp2_with fail
  refine (whear_2 HK3.out (by omega) (HML.out.below HK3.out.gr)).mono ?_
  rintro e w4 ⟨x4, he, hk4, hg4, ha4⟩
  rw [he.out]
  obtain ⟨gp, up, rfl, hp1, hp2, hp3⟩ := ans_one ha4
  have hpb : bx < gp := Nat.lt_of_lt_of_le HM3.out.lt hp3
  have HK4 := Lib.hid hk4
  have HM4 : Hid (Bk w4 bx 54 [.int .i64 0, .int .i64 1, .int .i64 2, .int .i64 0, .int .i64 1, .int .i64 0, .int .i64 0, .int .i64 1, .int .i64 0, .int .i64 0, .int .i64 0, .int .i64 0, .int .i64 0, .int .i64 1, .int .i64 1, .int .i64 3, .string ⟨#[47, 97]⟩, .string ⟨#[]⟩, .int .i64 0, .int .i64 0, .int .i64 0, .int .i64 0, .slice none 0 0, .int .i64 0, .slice none 0 0, .slice none 0 0, .slice none 0 0]) := Lib.hid ((hg4.block _ HM3.out.lt (by simpa using HK3.out.at'.blkNe _ _ _ _ HM3.out)).trans HM3.out)
  have HX4 := Lib.hid ((hg4.block _ HX3.out.lt (by simpa using HK3.out.at'.blkNe _ _ _ _ HX3.out)).trans HX3.out)
  have HP4 := Lib.hid hp1
  clear he hk4 hg4 ha4 hp1 hp2 m3 m4 m5 HM3 HX3 HK3
  have m0 := HM4.out.cell 0
  have f0 := HM4.out.fz 0
  simp only [List.getElem?_cons_zero, List.getElem?_cons_succ] at m0
  have HM5 : Hid (Bk (w4.setCell ⟨bx, 0, none⟩ (.int .i64 2)) bx 54 [.int .i64 2, .int .i64 1, .int .i64 2, .int .i64 0, .int .i64 1, .int .i64 0, .int .i64 0, .int .i64 1, .int .i64 0, .int .i64 0, .int .i64 0, .int .i64 0, .int .i64 0, .int .i64 1, .int .i64 1, .int .i64 3, .string ⟨#[47, 97]⟩, .string ⟨#[]⟩, .int .i64 0, .int .i64 0, .int .i64 0, .int .i64 0, .slice none 0 0, .int .i64 0, .slice none 0 0, .slice none 0 0, .slice none 0 0]) := Lib.hid (HM4.out.set 0 _)
  go_wp2_with (first
    | refine wpList_load_rowG rfl _ _ rfl bx rfl 54 _ (0, 0) _ HM5.out Tryz.underlying54 rfl (by kernel_rfl) ?_
    | fail)
  have hgs := grown_setCell w4 bx 0 (.int .i64 2)
  have HKs : Hid (BkIn W W.heap.size g mb 2 wb2 (w4.setCell ⟨bx, 0, none⟩ (.int .i64 2))) := Lib.hid ⟨HK4.out.at'.blk hgs HM4.out (by decide) (by decide) (by decide), HK4.out.sm, HK4.out.gr.setCell (show W.heap.size ≤ (⟨bx, 0, none⟩ : Addr).block from HBX.out) _⟩
  have HX5 := Lib.hid ((hgs.block _ (Bk.lt HX4.out) (by simp; omega)).trans HX4.out)
  have HP5 := Lib.hid ((hgs.block _ (Bk.lt HP4.out) (by simp; omega)).trans HP4.out)
  generalize w4.setCell ⟨bx, 0, none⟩ (.int .i64 2) = w5 at *
  clear hgs m0 f0 HM4 HX4 HP4 HK4
  refine (whear_3 (HKs.out) (by omega) (HML.out.below HKs.out.gr)).mono ?_
  rintro e w6 ⟨x6, he, hk6, hg6, ha6⟩
  rw [he.out]
  obtain ⟨gy, uy, rfl, hy1, hy2, hy3⟩ := ans_one ha6
  have HK6 := Lib.hid hk6
  have HM6 : Hid (Bk w6 bx 54 [.int .i64 2, .int .i64 1, .int .i64 2, .int .i64 0, .int .i64 1, .int .i64 0, .int .i64 0, .int .i64 1, .int .i64 0, .int .i64 0, .int .i64 0, .int .i64 0, .int .i64 0, .int .i64 1, .int .i64 1, .int .i64 3, .string ⟨#[47, 97]⟩, .string ⟨#[]⟩, .int .i64 0, .int .i64 0, .int .i64 0, .int .i64 0, .slice none 0 0, .int .i64 0, .slice none 0 0, .slice none 0 0, .slice none 0 0]) := Lib.hid ((hg6.block _ HM5.out.lt (by simpa using HKs.out.at'.blkNe _ _ _ _ HM5.out)).trans HM5.out)
  have hx6 := ((hg6.block _ (Bk.lt HX5.out) (by simpa using HKs.out.at'.blkNe _ _ _ _ HX5.out)).trans HX5.out)
  have hp6 := ((hg6.block _ (Bk.lt HP5.out) (by simpa using HKs.out.at'.blkNe _ _ _ _ HP5.out)).trans HP5.out)
  have e0 := Bk.cell hx6 0
  have e21 := Bk.cell hx6 21
  have p0 := Bk.cell hp6 0
  have p8 := Bk.cell hp6 8
  have y0 := Bk.cell hy1 0
  have y6 := Bk.cell hy1 6
  have n3 := HM6.out.cell 3
  have n4 := HM6.out.cell 4
  have n5 := HM6.out.cell 5
  simp only [msE, ansB, inE, wx1, wx2, wb0, wm1, wm2, wm3, snV, snp0, List.cons_append, List.nil_append, List.getElem?_cons_zero, List.getElem?_cons_succ] at e0 e21 p0 p8 y0 y6 n3 n4 n5
  have lx := Bk.lt hx6
  have lp := Bk.lt hp6
  have ly := Bk.lt hy1
  have HGt := Lib.hid (wget_any HK6.out (by omega))
  clear he hk6 hg6 ha6 hy1 hy2 hx6 hp6 HM5 HX5 HP5 HKs
  go_wp2_with fail
  refine HGt.out.mono ?_
  rintro e w7 ⟨a7, c7, he, hb7⟩
  rw [he.out]
  have HK7 := Lib.hid (HK6.out.on hb7 (Nat.le_trans HK6.out.at'.lo.1 (Nat.le_of_lt HK6.out.at'.lt)))
  have HM7 := Lib.hid (HM6.out.below hb7)
  have HId := Lib.hid (bids_any HK7.out.at' (by omega))
  have hf1 : ∀ w : World, (Instr.field 48 (.agg #[.int .i64 1, .int .i64 1, .int .i64 2, .int .i64 0, .int .i64 1, .int .i64 1, .int .i64 1, .int .i64 3, .string ⟨#[47, 97]⟩, .string ⟨#[]⟩, .int .i64 0, .int .i64 0, .int .i64 0, .int .i64 1, .slice a7 0 c7]) 1).run Tryz.prog w = .ok (.agg #[.int .i64 1, .int .i64 2]) w := fun w => by kernel_rfl
  have hf2 : ∀ w : World, (Instr.field 39 (.agg #[.int .i64 1, .int .i64 2]) 0).run Tryz.prog w = .ok (.int .i64 1) w := fun w => by kernel_rfl
  clear he hb7 HGt e0 e21 p0 p8 y0 y6 n3 n4 n5 HK6 HM6 lx lp ly
  go_wp2_with fail
  refine HId.out.mono ?_
  rintro e w8 ⟨v8, he, ho8, hb8⟩
  rw [he.out]
  obtain ⟨a8, c8, hv8⟩ := ho8.slice
  rw [show (idsB wb2.l).length = 1 from rfl] at hv8
  subst hv8
  have HK8 := Lib.hid (HK7.out.on hb8 (Nat.le_trans HK7.out.at'.lo.1 (Nat.le_of_lt HK7.out.at'.lt)))
  have HM8 := Lib.hid (HM7.out.below hb8)
  have HKw := Lib.hid (bknown_any HK8.out.at' (by omega) (fun e he => (HK8.out.sm.each e he).1) (HK8.out.sm.kn2 (by omega)))
  clear he ho8 hb8 HK7 HM7 HId
  go_wp2_with fail
  refine HKw.out.mono ?_
  rintro e w9 ⟨v9, rs9, he, ho9, hE9, hb9⟩
  rw [he.out]
  obtain ⟨a9, c9, hv9⟩ := ho9.slice
  rw [hE9.1, show (knB wb2.l).length = 1 from rfl] at hv9
  subst hv9
  have HK9 := Lib.hid (HK8.out.on hb9 (Nat.le_trans HK8.out.at'.lo.1 (Nat.le_of_lt HK8.out.at'.lt)))
  have HM9 := Lib.hid (HM8.out.below hb9)
  have HRt := Lib.hid (bright_any HK9.out.at' (by show ([1, 2, 3] : List Int).length ≤ 1000; decide) (wmga_3 w9) (by show ([] : List I3).length ≤ 10000; decide))
  rw [w_right] at HRt
  clear he ho9 hE9 hb9 HK8 HM8 HKw
  go_wp2_with (first
    | refine wpList_load_rowG rfl _ _ rfl bx rfl 54 _ (0, 0) _ HM9.out Tryz.underlying54 rfl (by kernel_rfl) ?_
    | fail)
  refine HRt.out.mono ?_
  rintro e w10 ⟨rfl, hb10⟩
  have HF : Hid (Below W.heap.size W w10) := Lib.hid (HK9.out.gr.trans (hb10.mono HK9.out.gr.size))
  clear hb10
  go_wp2
  go_ret
  exact ⟨rfl, HF.out⟩
end Go.Proofs.YtchhcaoondfpiaaGreat
namespace Go.Proofs.YtchhcaoondfpiaaGreat
open Go.RowKit Go.Sort
open Go.WideMaps
set_option linter.unusedSimpArgs false
set_option linter.unusedVariables false
set_option maxRecDepth 100000

theorem eqC_selfA (a b c : Int) (d e : ByteArray) (f g h : Int) : (∀ w, Sem.run Tryz.prog (binOp .eql 43 (.agg #[.int .i64 a, .int .i64 b, .int .i64 c, .string d, .string e, .int .i64 f, .int .i64 g, .int .i64 h]) (.agg #[.int .i64 a, .int .i64 b, .int .i64 c, .string d, .string e, .int .i64 f, .int .i64 g, .int .i64 h])) w = .ok (.bool true) w) ∧ (∀ w, Sem.run Tryz.prog (binOp .neq 43 (.agg #[.int .i64 a, .int .i64 b, .int .i64 c, .string d, .string e, .int .i64 f, .int .i64 g, .int .i64 h]) (.agg #[.int .i64 a, .int .i64 b, .int .i64 c, .string d, .string e, .int .i64 f, .int .i64 g, .int .i64 h])) w = .ok (.bool false) w) ∧
    (∀ op x y w, Sem.run Tryz.prog (eqGuard op 43 x y (.agg #[.int .i64 a, .int .i64 b, .int .i64 c, .string d, .string e, .int .i64 f, .int .i64 g, .int .i64 h]) (.agg #[.int .i64 a, .int .i64 b, .int .i64 c, .string d, .string e, .int .i64 f, .int .i64 g, .int .i64 h])) w = .ok () w) := by
  have hq : ∀ w, Sem.run Tryz.prog (binOp .eql 43 (.agg #[.int .i64 a, .int .i64 b, .int .i64 c, .string d, .string e, .int .i64 f, .int .i64 g, .int .i64 h]) (.agg #[.int .i64 a, .int .i64 b, .int .i64 c, .string d, .string e, .int .i64 f, .int .i64 g, .int .i64 h])) w = .ok (.bool true) w := by
    intro w
    have u3 := Tryz.underlying9
    have a3 := Tryz.isAgg9
    have z3 := Tryz.sizeOf9
    have u4 := Tryz.underlying3
    have a4 := Tryz.isAgg3
    have z4 := Tryz.sizeOf3
    have u5 := Tryz.underlying41
    have a5 := Tryz.isAgg41
    have z5 := Tryz.sizeOf41
    have hS : Tryz.prog.underlying 43 = some (.struct (Tryz.prog.fieldsOf 43)) := by kernel_rfl
    have hp : Tryz.prog.stoodInHeld 43 = false := by kernel_rfl
    rw [run_eql_struct, show (10000 : Nat) = 9999 + 1 from rfl, run_equalIn_agg w 9999 43 _ _ hS hp]
    simp only [Program.fieldsOf, Tryz.underlying43]
    go_simp
    try simp
  refine ⟨hq, fun w => ?_, fun op x y w => run_eqGuard_agg w op 43 x y _ _ (by kernel_rfl)⟩
  have h := hq w
  rw [run_eql_struct] at h
  rw [run_neq_struct]
  revert h
  generalize Sem.run Tryz.prog (Op.equalIn 10000 43 (.agg #[.int .i64 a, .int .i64 b, .int .i64 c, .string d, .string e, .int .i64 f, .int .i64 g, .int .i64 h]) (.agg #[.int .i64 a, .int .i64 b, .int .i64 c, .string d, .string e, .int .i64 f, .int .i64 g, .int .i64 h])) w = r
  intro h
  cases r with
  | ok v w' => simp [Result.andThen] at h ⊢; simp [h]
  | halt x w' => simp [Result.andThen] at h
set_option maxHeartbeats 4000000 in
theorem sameI_any (x : Ist) (u u2 : Value) (w : World) (h : IK.Rd w u x.at'.2) (k : IK.Rd w u2 x.at'.2) (hl : x.at'.2.length ≤ 10000) : Calls Tryz.prog 19 #[.agg (inE x u).toArray, .agg (inE x u2).toArray] w fun e w' => e = .returned (.bool true) ∧ Below w.heap.size w w' := by
  obtain ⟨p0, ⟨p1, p2⟩, ⟨p3, p4⟩, ⟨p5, p6, p7, p8, p9, p10, p11, p12⟩, ps, pl⟩ := x
  simp only at h k hl
  obtain ⟨pa, pk, hs⟩ := h.slice
  obtain ⟨pb, pj, hs2⟩ := k.slice
  obtain ⟨P, hP⟩ : ∃ P, pl.length = P := ⟨_, rfl⟩
  rw [hP] at hs hs2
  subst hs hs2
  simp only [inE]
  obtain ⟨X, hX⟩ : ∃ X, (w.alloc (.cells #[.int .i64 p0, .int .i64 p1, .int .i64 p2, .int .i64 p3, .int .i64 p4, .int .i64 p5, .int .i64 p6, .int .i64 p7, .string p8, .string p9, .int .i64 p10, .int .i64 p11, .int .i64 p12, .int .i64 ps, .slice pa P pk] 48)).alloc (.cells #[.int .i64 p0, .int .i64 p1, .int .i64 p2, .int .i64 p3, .int .i64 p4, .int .i64 p5, .int .i64 p6, .int .i64 p7, .string p8, .string p9, .int .i64 p10, .int .i64 p11, .int .i64 p12, .int .i64 ps, .slice pb P pj] 48) = X := ⟨_, rfl⟩
  have hBX : Below w.heap.size w X := by rw [← hX]; exact ((Below.refl _ _).alloc (Nat.le_refl _) _).alloc (by simp) _
  have h1 : Bk X w.heap.size 48 [.int .i64 p0, .int .i64 p1, .int .i64 p2, .int .i64 p3, .int .i64 p4, .int .i64 p5, .int .i64 p6, .int .i64 p7, .string p8, .string p9, .int .i64 p10, .int .i64 p11, .int .i64 p12, .int .i64 ps, .slice pa P pk] := by rw [← hX]; exact (Bk.new w _ _).old _
  have h2 : Bk X (w.heap.size + 1) 48 [.int .i64 p0, .int .i64 p1, .int .i64 p2, .int .i64 p3, .int .i64 p4, .int .i64 p5, .int .i64 p6, .int .i64 p7, .string p8, .string p9, .int .i64 p10, .int .i64 p11, .int .i64 p12, .int .i64 ps, .slice pb P pj] := by rw [← hX]; exact Bk.newA (by simp) _ [.int .i64 p0, .int .i64 p1, .int .i64 p2, .int .i64 p3, .int .i64 p4, .int .i64 p5, .int .i64 p6, .int .i64 p7, .string p8, .string p9, .int .i64 p10, .int .i64 p11, .int .i64 p12, .int .i64 ps, .slice pb P pj]
  have HR := Lib.hid (row_any _ _ pl pl X (h.below hBX) (k.below hBX) hl hl)
  rw [show decide (pl = pl) = true by simp] at HR
  have HBX := Lib.hid hBX
  obtain ⟨ea, ga⟩ := eqB_runA p1 p2 p1 p2 true (by simp)
  obtain ⟨eb, gb⟩ := eqB_runA p3 p4 p3 p4 true (by simp)
  obtain ⟨ec, _, gc⟩ := eqC_selfA p5 p6 p7 p8 p9 p10 p11 p12
  have a0 := h1.cell 0
  have a1 := h1.cell 1
  have a2 := h1.cell 2
  have a3 := h1.cell 3
  have a4 := h1.cell 4
  have a5 := h1.cell 5
  have a6 := h1.cell 6
  have a7 := h1.cell 7
  have a8 := h1.cell 8
  have a9 := h1.cell 9
  have a10 := h1.cell 10
  have a11 := h1.cell 11
  have a12 := h1.cell 12
  have a13 := h1.cell 13
  have a14 := h1.cell 14
  have b0 := h2.cell 0
  have b1 := h2.cell 1
  have b2 := h2.cell 2
  have b3 := h2.cell 3
  have b4 := h2.cell 4
  have b5 := h2.cell 5
  have b6 := h2.cell 6
  have b7 := h2.cell 7
  have b8 := h2.cell 8
  have b9 := h2.cell 9
  have b10 := h2.cell 10
  have b11 := h2.cell 11
  have b12 := h2.cell 12
  have b13 := h2.cell 13
  have b14 := h2.cell 14
  simp only [List.getElem?_cons_zero, List.getElem?_cons_succ] at a0 b0 a1 b1 a2 b2 a3 b3 a4 b4 a5 b5 a6 b6 a7 b7 a8 b8 a9 b9 a10 b10 a11 b11 a12 b12 a13 b13 a14 b14
  have z1 := h1.lt
  have z2 := h2.lt
  clear h k hl hP hBX h1 h2
  go_enter Tryz.func19, Tryz.ntmps19
  go_wp2_with fail
  try rw [hX]
  refine HR.out.mono ?_
  rintro e w1 ⟨rfl, hb⟩
  have HB := Lib.hid (HBX.out.trans (hb.mono HBX.out.size))
  clear hb hX a0 b0 a1 b1 a2 b2 a3 b3 a4 b4 a5 b5 a6 b6 a7 b7 a8 b8 a9 b9 a10 b10 a11 b11 a12 b12 a13 b13 a14 b14 ea eb ec ga gb gc z1 z2
  go_wp2
  go_ret
  exact ⟨rfl, HB.out⟩
end Go.Proofs.YtchhcaoondfpiaaGreat
namespace Go.Proofs.YtchhcaoondfpiaaGreat
open Go.RowKit Go.Sort
open Go.WideMaps
set_option linter.unusedSimpArgs false
set_option linter.unusedVariables false
set_option maxRecDepth 100000

/-- Hearing leaves whose it is. -/
theorem heard_same (b : BSt) : ∀ l : List Mg, (heardB b l).node = b.node ∧ (heardB b l).ep = b.ep ∧ (heardB b l).ns = b.ns := by
  intro l
  unfold heardB
  induction l generalizing b with
  | nil => exact ⟨rfl, rfl, rfl⟩
  | cons m l ih =>
    rw [List.foldl_cons]
    have h1 := ih (hearB lclA b m).1
    have h2 := hear_same lclA (b := b) m
    exact ⟨h1.1.trans h2.1, h1.2.1.trans h2.2.1, h1.2.2.trans h2.2.2⟩
theorem BkIn.blk {W w w' : World} {B g mb i : Nat} {b : BSt} (h : BkIn W B g mb i b w) {k0 : Nat} (hg : w.grownBy w' (some k0)) {cs : Array Value} {T : TypeId} {fr : Nat × Nat} (hk : w.heap[k0]? = some (.cells cs T fr)) (h1 : T ≠ 85) (h2 : T ≠ 3) (h3 : T ≠ 37) : BkIn w' B g mb i b w' :=
  ⟨h.at'.blk hg hk h1 h2 h3, h.sm, Below.refl _ _⟩
theorem BkIn.new {W w : World} {B g mb i : Nat} {b : BSt} (h : BkIn W B g mb i b w) : BkIn w B g mb i b w := ⟨h.at', h.sm, Below.refl _ _⟩
theorem neI_runA (a1 a2 a3 b1 b2 b3 : Int) (q : Bool) (hq : decide (((a1, a2, a3) : I3) = (b1, b2, b3)) = q) : ∀ w, Sem.run Tryz.prog (binOp .neq 37 (.agg #[.int .i64 a1, .int .i64 a2, .int .i64 a3]) (.agg #[.int .i64 b1, .int .i64 b2, .int .i64 b3])) w = .ok (.bool (!q)) w := by
  subst hq
  intro w
  have h := (eqI_run a1 a2 a3 b1 b2 b3).1 w
  rw [run_eql_struct] at h
  rw [run_neq_struct]
  revert h
  generalize Sem.run Tryz.prog (Op.equalIn 10000 37 (.agg #[.int .i64 a1, .int .i64 a2, .int .i64 a3]) (.agg #[.int .i64 b1, .int .i64 b2, .int .i64 b3])) w = r
  intro h
  cases r with
  | ok v w' => simp [Result.andThen] at h ⊢; simp [h]
  | halt x w' => simp [Result.andThen] at h
theorem right_kind (b : BSt) (m : Mg) (k : Int) : rightB b { m with kind := k } = rightB b m := rfl
end Go.Proofs.YtchhcaoondfpiaaGreat
