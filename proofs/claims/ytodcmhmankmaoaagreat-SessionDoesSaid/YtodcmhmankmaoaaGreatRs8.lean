/-
 Whatever commands come, from any entries, and sessions, on: each reply, and all that there is behind, is just what the document says.
-/
import Derived.Test.YtodcmhmankmaoaaGreatRs7
import Derived.Test.YtodcmhmankmaoaaGreatMr
import Derived.IntWalk
namespace Go.Proofs.YtodcmhmankmaoaaGreat
open Go.RowKit Go.Sort Go.MapKept
set_option linter.unusedSimpArgs false
set_option linter.unusedVariables false
set_option maxRecDepth 100000

theorem MatchR.g {X w : World} {xs : List SG} {s : List S3} (h : MatchR X xs s) : MatchG X w xs s :=
 ⟨h.len, fun j hj => have q := h.at' j hj; ⟨q.cl, q.sq, q.er, q.vl, q.vr, .inl q.row⟩⟩
/-- A reply's box stays where the document's machine turns. -/
theorem bk_rm {X w w' : World} {base r p : Nat} {v0 u : Value} {xs : List SG} {m : Mac} {cs : List Value} (hb : Bk w p 36 cs) (h : RM X w base r v0 u xs m) (hf : Fr (fun k => k = r ∨ v0.ownBlock = some k) w w') : Bk w' p 36 cs := hf.bk hb fun q => by
 rcases q with q | q
 ·subst q
  have e : w.heap[p]? = some (.cells [v0, u].toArray 58 (0, 0)) := h.rd.bk
  rw [hb] at e
  injection e with e
  injection e with _ e2
  exact absurd e2 (by decide)
 ·obtain ⟨_, cs9, fr9, e9⟩ := h.rd.own.blk p q
  rw [hb] at e9
  injection e9 with e9
  injection e9 with _ e2
  exact absurd e2 (by decide)
theorem sk_rm {X w w' : World} {base r B : Nat} {v0 u v : Value} {xs : List SG} {m : Mac} {ns : List ByteArray} (hv : SK.Own w B v ns) (h : RM X w base r v0 u xs m) (hf : Fr (fun k => k = r ∨ v0.ownBlock = some k) w w') : SK.Own w' B v ns := hf.own hv fun k hk q => by
 obtain ⟨_, cs, fr, e⟩ := hv.blk k hk
 rcases q with q | q
 ·subst q
  rw [h.rd.bk] at e
  injection e with e
  injection e with _ e2
  exact absurd e2 (by decide)
 ·obtain ⟨_, cs9, fr9, e9⟩ := h.rd.own.blk k q
  rw [e9] at e
  injection e with e
  injection e with _ e2
  exact absurd e2 (by decide)
theorem sk_box {w w' : World} {p B : Nat} {v : Value} {ns : List ByteArray} {cs : List Value} (hv : SK.Own w B v ns) (hb : Bk w p 36 cs) (hf : Fr (fun k => k = p) w w') : SK.Own w' B v ns := hf.own hv fun k hk q => by
 obtain ⟨_, cs', fr, e⟩ := hv.blk k hk
 subst q
 rw [hb] at e
 injection e with e
 injection e with _ e2
 exact absurd e2 (by decide)
theorem ng_box {X w w' : World} {p : Nat} {v : Value} {ns : List ByteArray} {cs : List Value} (hv : NG X w v ns) (hb : Bk w p 36 cs) (hf : Fr (fun k => k = p) w w') : NG X w' v ns := hv.fr hf fun k cs' fr e q => by
 subst q
 rw [hb] at e
 injection e with e
 injection e with _ e2
 exact absurd e2 (by decide)
theorem japp {X w w' : World} {g d bk sb base r K k : Nat} {v0 u : Value} {xs : List SG} {m m2 : Mac} {t : Cm} {R : Rep} {rep : Rep} (hq : appM m t R = (rep, m2)) (h : JS X g d bk sb base r K k v0 u xs m m w) (hm : MacAt X g d bk sb (K + 1) m2 w') (ht : Two w w' bk sb) (hc : R.names.length ≤ 100000) (hk : k ≤ 1000) : JS X g d bk sb base r (K + 1) k v0 u xs m m2 w' := by
 have := h.app t R hc (w' := w') (by rw [hq]; exact hm) ht hk
 rwa [hq] at this
set_option maxHeartbeats 200000000 in
theorem sessionDoes_walk (a0 : Option Addr) (c0 : Nat) (l0 : List E3) (as' : Option Addr) (cs' : Nat) (xs0 : List SG) (s0 : List S3) (a : Option Addr) (n c : Nat) (ts : List Cm) (R : Rep) (vc : Value) (w : World) (hE : EK.Rd w (.slice a0 l0.length c0) l0) (hS : SF.Rd w (.slice as' xs0.length cs') xs0) (hM : MatchR w xs0 s0) (hn : n = ts.length) (hC : CRd w a ts) (hvc : SK.Rd w vc R.names) (hm : ML w) :
  Calls Tryz.prog 4 #[.slice a0 l0.length c0, .slice as' xs0.length cs', .slice a n c, repV R vc] w fun e w' => e = .returned (.bool true) ∧ Below w.heap.size w w' := by
 obtain ⟨ca, cc, ec⟩ := hvc.slice
 subst ec
 obtain ⟨cn, hcn⟩ : ∃ q, R.names.length = q := ⟨_, rfl⟩
 rw [hcn] at hvc ⊢
 obtain ⟨n0, hn0⟩ : ∃ q, l0.length = q := ⟨_, rfl⟩
 rw [hn0] at hE ⊢
 obtain ⟨ns0, hns0⟩ : ∃ q, xs0.length = q := ⟨_, rfl⟩
 rw [hns0] at hS ⊢
 obtain ⟨X, hX⟩ : ∃ q, w.alloc (.cells #[.int .i64 R.err, .string R.val, .int .i64 R.ver, .slice ca cn cc] 36) = q := ⟨_, rfl⟩
 obtain ⟨b7, hb7⟩ : ∃ q, w.heap.size = q := ⟨_, rfl⟩
 have hB : Below w.heap.size w X := by rw [← hX]; exact (Below.refl _ _).alloc (Nat.le_refl _) _
 have HB : Hid (Below w.heap.size w X) := Lib.hid hB
 have HBx7 : Hid (Bk X b7 36 [.int .i64 R.err, .string R.val, .int .i64 R.ver, .slice ca cn cc]) := Lib.hid (by rw [← hX]; exact Bk.newA hb7 36 [.int .i64 R.err, .string R.val, .int .i64 R.ver, .slice ca cn cc])
 have HN0 := Lib.hid hn0.symm
 have HNs : Hid (ns0 = s0.length) := Lib.hid (by rw [← hns0]; exact hM.len)
 have HN := Lib.hid hn
 have HCn := Lib.hid hcn
 have HML := Lib.hid (hm.below hB)
 have HC := Lib.hid (hC.below hB)
 have HE := Lib.hid (hE.below hB)
 have HS := Lib.hid (hS.below hB)
 have HM := Lib.hid (hM.on hB)
 have HVc := Lib.hid (hvc.below hB)
 have hn63 : n0 ≤ 9223372036854775807 := by have := hE.len; rw [hn0] at this; unfold maxLen at this; omega
 have hs63 : ns0 ≤ 9223372036854775807 := by have := hS.len; rw [hns0] at this; unfold maxLen at this; omega
 clear hn hm hC hE hS hM hvc hn0 hns0 hcn hB
 go_enter Tryz.func4, Tryz.ntmps4
 go_wp2_with fail
 try rw [hX]
 try rw [hb7]
 clear hX hb7
 refine (works9_any X HML.out).mono ?_
 rintro e w1 ⟨rfl, hb⟩
 have HB1 := Lib.hid hb
 clear hb
 go_wp2_with fail
 refine (over_any a n c ts w1 HN.out (HC.out.below HB1.out)).mono ?_
 rintro e w' ⟨rfl, rfl⟩
 obtain ⟨O, hO⟩ : ∃ O, ovB ts = O := ⟨_, rfl⟩
 rw [hO]
 have HO := Lib.hid hO
 clear hO
 cases O with
 | true =>
  go_wp2
  go_ret
  exact ⟨rfl, HB.out.trans (HB1.out.mono HB.out.size)⟩
 | false =>
  have hov := ovB_no HO.out
  have hn60 : n ≤ 60 := by have := HN.out; omega
  have HSn : Hid (∀ j, j < ts.length → (ts.getD j default).pa.size ≤ 300) := Lib.hid fun j hj => (hov.2 j hj).1
  clear hov HO
  by_cases e60 : 60 < n0
  ·have e1 : (60 : Int) < (n0 : Int) := by omega
   have e2 : decide ((60 : Int) < (n0 : Int)) = true := decide_eq_true e1
   go_wp2
   go_ret
   exact ⟨rfl, HB.out.trans (HB1.out.mono HB.out.size)⟩
  have e1 : ¬ (60 : Int) < (n0 : Int) := by omega
  have e2 : decide ((60 : Int) < (n0 : Int)) = false := decide_eq_false e1
  by_cases s60 : 60 < ns0
  ·have s1 : (60 : Int) < (ns0 : Int) := by omega
   have s2 : decide ((60 : Int) < (ns0 : Int)) = true := decide_eq_true s1
   go_wp2
   go_ret
   exact ⟨rfl, HB.out.trans (HB1.out.mono HB.out.size)⟩
  have s1 : ¬ (60 : Int) < (ns0 : Int) := by omega
  have s2 : decide ((60 : Int) < (ns0 : Int)) = false := decide_eq_false s1
  obtain ⟨ka, kc, ke, hks⟩ := sk_nms (HVc.out.below HB1.out)
  simp only [Value.slice.injEq] at ke
  obtain ⟨rfl, -, rfl⟩ := ke
  have HKs := Lib.hid hks
  have d3 := Bk.cell (HBx7.out.below HB1.out) 3
  simp only [List.getElem?_cons_zero, List.getElem?_cons_succ] at d3
  clear hks
  go_wp2_with fail
  refine (long_any ca cn cc R.names w1 HKs.out HCn.out.symm).mono ?_
  rintro e w' (⟨rfl, hln, rfl⟩ | ⟨rfl, rfl⟩)
  rotate_left
  ·go_wp2
   go_ret
   exact ⟨rfl, HB.out.trans (HB1.out.mono HB.out.size)⟩
  have HCl : Hid (R.names.length ≤ 100000) := Lib.hid (by omega)
  clear hln d3 HKs
  go_wp2_with fail
  go_loop [10] (fun i => ∃ k : Nat, k ≤ n0 ∧ i = .int .i64 k ∧ Hid (∀ j, j < k → (l0.getD j EK.d).1.size ≤ 300 ∧ (l0.getD j EK.d).2.1.size ≤ 300 ∧ (l0.getD j EK.d).2.2 ≤ 1099511627776)) (fun i => n0 - (intOf i).toNat)
  case atStart => exact ⟨0, by omega, rfl, Lib.hid (fun j hj => by omega)⟩
  case round =>
   obtain ⟨k, hk, rfl, hF⟩ := hrel
   by_cases hlt : k < n0
   ·have hlt' : (k : Int) < (n0 : Int) := by omega
    have hlt2 : decide (k < n0) = true := decide_eq_true hlt
    obtain ⟨-, g, off, ha, hg, m0, m1, m2, hkl⟩ := entCell (HE.out.below HB1.out) k hlt
    obtain ⟨⟨ep, ev, en⟩, hE⟩ : ∃ E, l0.getD k EK.d = E := ⟨_, rfl⟩
    rw [hE] at m0 m1 m2
    simp only at m0 m1 m2
    have HEe := Lib.hid hE
    subst ha
    clear hE hkl hg
    by_cases y1 : (300 : Int) < ep.size
    ·clear hF
     go_wp2
     go_ret
     exact ⟨rfl, HB.out.trans (HB1.out.mono HB.out.size)⟩
    ·by_cases y2 : (300 : Int) < ev.size
     ·clear hF
      go_wp2
      go_ret
      exact ⟨rfl, HB.out.trans (HB1.out.mono HB.out.size)⟩
     ·by_cases y3 : (1099511627776 : Int) < en
      ·clear hF
       go_wp2
       go_ret
       exact ⟨rfl, HB.out.trans (HB1.out.mono HB.out.size)⟩
      ·have hF2 : Hid (∀ j, j < k + 1 → (l0.getD j EK.d).1.size ≤ 300 ∧ (l0.getD j EK.d).2.1.size ≤ 300 ∧ (l0.getD j EK.d).2.2 ≤ 1099511627776) := Lib.hid (fun j hj => by
        by_cases e : j = k
        ·subst e; rw [HEe.out]; simp only; omega
        ·exact hF.out j (by omega))
       clear hF
       go_wp2
       go_round
       case rel => exact ⟨k + 1, by omega, by go_num, hF2⟩
       case measure => simp [intOf]; omega
   ·obtain rfl : n0 = k := by omega
    have hlt' : ¬ (n0 : Int) < (n0 : Int) := by omega
    have HFw : Hid (FewE l0) := Lib.hid (few_of (by have := HN0.out; omega) (fun j hj => hF.out j (by have := HN0.out; omega)))
    clear hF hlt
    go_wp2_with fail
    go_loop [11] (fun i => ∃ k : Nat, k ≤ ns0 ∧ i = .int .i64 k ∧ Hid (∀ j, j < k → (s0.getD j zS).2.2.names.length ≤ 60)) (fun i => ns0 - (intOf i).toNat)
    case atStart => exact ⟨0, by omega, rfl, Lib.hid (fun j hj => by omega)⟩
    case round =>
     obtain ⟨k, hk, rfl, hF⟩ := hrel
     by_cases hlt : k < ns0
     ·have hlt' : (k : Int) < (ns0 : Int) := by omega
      have hlt2 : decide (k < ns0) = true := decide_eq_true hlt
      obtain ⟨-, g, off, ha, -, -, -, -, -, -, -, t5⟩ := sgCell (HS.out.below HB1.out) k hlt
      have hrow := ((HM.out.on HB1.out).at' k (by have := HNs.out; omega)).row
      obtain ⟨⟨xa, xn, xc⟩, hy⟩ : ∃ y : Option Addr × Nat × Nat, ((xs0.getD k sgZ).a, (xs0.getD k sgZ).n, (xs0.getD k sgZ).c) = y := ⟨_, rfl⟩
      simp only [Prod.mk.injEq] at hy
      obtain ⟨hy1, hy2, hy3⟩ := hy
      rw [hy1, hy2, hy3] at t5 hrow
      obtain ⟨ka, kc, ke, hks⟩ := sk_nms hrow
      simp only [Value.slice.injEq] at ke
      obtain ⟨rfl, kn, rfl⟩ := ke
      have HKs := Lib.hid hks
      have HKn := Lib.hid kn
      subst ha
      clear hks kn hrow hy1 hy2 hy3
      go_wp2_with fail
      refine (long_any xa xn xc _ w1 HKs.out HKn.out).mono ?_
      rintro e w' (⟨rfl, hln, rfl⟩ | ⟨rfl, rfl⟩)
      ·have hF2 : Hid (∀ j, j < k + 1 → (s0.getD j zS).2.2.names.length ≤ 60) := Lib.hid (fun j hj => by
        by_cases e : j = k
        ·subst e; exact hln
        ·exact hF.out j (by omega))
       clear hF hln t5
       go_wp2
       go_round
       case rel => exact ⟨k + 1, by omega, by go_num, hF2⟩
       case measure => simp [intOf]; omega
      ·clear hF t5
       go_wp2
       go_ret
       exact ⟨rfl, HB.out.trans (HB1.out.mono HB.out.size)⟩
     ·obtain rfl : ns0 = k := by omega
      have hlt' : ¬ (ns0 : Int) < (ns0 : Int) := by omega
      have HSm : Hid (SmM ⟨l0, s0⟩) := Lib.hid (fun e he => by
       obtain ⟨j, hj, rfl⟩ := List.getElem_of_mem he
       have q := hF.out j (by have := HNs.out; show j < ns0; rw [this]; exact hj)
       simp only [List.getD, List.getElem?_eq_getElem hj, Option.getD_some] at q
       exact Nat.le_trans q (by omega))
      have HZ0 : Hid (∀ x ∈ l0, x.1.size ≤ 1000) := Lib.hid fun x hx => by have := (HFw.out.2 x hx).1; omega
      have HZj : Hid (∀ j, j < l0.length → (l0.getD j EK.d).1.size ≤ 1000) := Lib.hid fun j hj => HZ0.out _ (by simp [List.getD, hj])
      clear hF hlt
      by_cases hr0 : RightD l0
      ·have HR0 := Lib.hid hr0
       have HRB := Lib.hid ((rght_iff l0).2 hr0)
       clear hr0
       have HV0 : Hid (verB (1099511627776 + 1000) l0) := Lib.hid (fun e he => by
        have h1 := HR0.out.vers e he
        have h2 := (HFw.out.2 e he).2.2
        exact ⟨by omega, by omega⟩)
       have HOf := Lib.hid (mofg_any (X := X) a0 n0 c0 l0 as' ns0 cs' xs0 s0 HB1.out (HE.out.below HB1.out) (HS.out.below HB1.out) (HM.out.on HB1.out) (by have := HN0.out; omega) (by have := HNs.out; omega) HV0.out HR0.out HSm.out (HML.out.below HB1.out))
       go_wp2_with fail
       refine HOf.out.mono ?_
       rintro e w2 (⟨hok, g, d, bk, sb, he, hmac, hlo, hb⟩ | ⟨hno, rfl, hb⟩)
       ·have he := he.out
        subst he
        have HOk := Lib.hid hok
        have HMac := Lib.hid hmac
        have HB2 := Lib.hid (HB1.out.trans (hb.mono HB1.out.size))
        clear hok hmac hlo hb HOf
        go_wp2_with fail
        refine (rright_any a0 n0 c0 l0 w2 (HE.out.below HB2.out) HN0.out (by omega) HZj.out).mono ?_
        rintro e w3 ⟨rfl, hb⟩
        rw [HRB.out]
        have HMac3 := Lib.hid (HMac.out.on hb)
        have HB3 := Lib.hid (HB2.out.trans (hb.mono HB2.out.size))
        clear hb HMac HB2
        go_wp2_with fail
        refine (rright9_any as' ns0 cs' xs0 s0 X w3 (HS.out.below HB3.out) (MatchR.g HM.out) (by omega)).mono ?_
        rintro e w4 (⟨rfl, -, hb⟩ | ⟨rfl, hno, hb⟩)
        rotate_left
        ·exact absurd HOk.out hno
        have HMac4 := Lib.hid (HMac3.out.on hb)
        have HB4 := Lib.hid (HB3.out.trans (hb.mono HB3.out.size))
        clear hb HMac3 HB3
        obtain ⟨r, hr⟩ : ∃ r, w4.heap.size = r := ⟨_, rfl⟩
        obtain ⟨W5, hW5⟩ : ∃ q, w4.alloc (.cells #[.slice none 0 0, .slice none 0 0] 58) = q := ⟨_, rfl⟩
        have HK5 : Hid (Bk W5 r 58 [.slice none 0 0, .slice none 0 0]) := Lib.hid (by rw [← hW5]; exact Bk.newA hr 58 [.slice none 0 0, .slice none 0 0])
        have HX5 : Hid (Below w4.heap.size w4 W5) := Lib.hid (by rw [← hW5]; exact (Below.refl _ _).alloc (Nat.le_refl _) _)
        have HS5 : Hid (W5.heap.size = r + 1) := Lib.hid (by rw [← hW5, ← hr]; simp)
        have HLt : Hid (g < r ∧ d < r ∧ bk < r ∧ sb < r ∧ X.heap.size ≤ r) := Lib.hid (by
         have q := HMac4.out.lt
         have := HB4.out.size
         omega)
        have HB5 := Lib.hid (HB4.out.trans (HX5.out.mono HB4.out.size))
        have HMac5 := Lib.hid (HMac4.out.on HX5.out)
        have k0 := Bk.cell HK5.out 0
        have k1 := Bk.cell HK5.out 1
        simp only [List.getElem?_cons_zero, List.getElem?_cons_succ] at k0 k1
        have kf := Bk.fz HK5.out
        go_wp2_with (refine EK.app rfl _ _ rfl (r + 1) (.slice none 0 0) [] rfl ?ownA _ l0 rfl ?rdA (by have := HN0.out; simp; omega) ?bsA ?_)
        case ownA => exact Knd.Own.nil _ _
        case rdA => exact HE.out.below HB5.out
        case bsA => exact Nat.le_of_eq HS5.out.symm
        intro v6 w6 ho hb _ _
        try rw [List.nil_append] at ho
        obtain ⟨a6, c6, e6⟩ := ho.slice
        rw [← HN0.out] at e6
        subst e6
        clear hr hW5
        have hb6 : Below W5.heap.size W5 w6 := by rw [HS5.out]; exact hb
        have HK6 := Lib.hid (HK5.out.below hb6)
        have hf6 := Bk.fz HK6.out
        have q0 := Bk.cell HK6.out 0
        have q1 := Bk.cell HK6.out 1
        simp only [List.getElem?_cons_zero, List.getElem?_cons_succ] at q0 q1
        obtain ⟨w7, hw7⟩ : ∃ q, w6.setCell ⟨r, 0, none⟩ (.slice a6 n0 c6) = q := ⟨_, rfl⟩
        have HK7 : Hid (Bk w7 r 58 [.slice a6 n0 c6, .slice none 0 0]) := Lib.hid (by rw [← hw7]; exact HK6.out.set 0 _)
        have HO7 : Hid (EK.Own w7 (r + 1) (.slice a6 n0 c6) l0) := Lib.hid (by rw [← hw7]; exact own_setA ho (Nat.lt_succ_self r) 0 _)
        have HBr7 : Hid (Below r W5 w7) := Lib.hid (by rw [← hw7]; exact Below.setCell (hb6.mono (by rw [HS5.out]; exact Nat.le_succ _)) (Nat.le_refl r) _)
        have HZ7 : Hid (r + 1 ≤ w7.heap.size) := Lib.hid (by have := HK7.out.lt; omega)
        have HMac7 : Hid (MacAt X g d bk sb 1000 ⟨l0, s0⟩ w7) := Lib.hid (HMac5.out.frA HML.out (r := r) (S := fun j => r ≤ j ∧ (j = r ∨ W5.heap.size ≤ j)) (by
         rw [← hw7]
         exact ((Fr.ofBelow hb6).trans (Fr.set w6 ⟨r, 0, none⟩ _) (U := fun j => r ≤ j ∧ (j = r ∨ W5.heap.size ≤ j)) (fun j _ q => by
          have h5 := HS5.out
          rcases q with q | q
          ·exact ⟨by omega, .inr q⟩
          ·have q' : j = r := q
           exact ⟨by omega, .inl q'⟩))) (fun j q => q.1) HLt.out.2.2.2.2 ⟨HLt.out.1, HLt.out.2.1, HLt.out.2.2.1, HLt.out.2.2.2.1⟩ (by have := HK5.out.lt; omega) (fun k cs fr e q => by
          rcases q.2 with q2 | q2
          ·subst q2
           rw [HK5.out] at e
           injection e with e
           injection e with _ e2
           exact absurd e2 (by decide)
          ·exact absurd (Array.getElem?_eq_some_iff.1 e).1 (Nat.not_lt.2 q2)))
        have HB7 := Lib.hid HMac7.out.lw.below
        have d0 := Bk.cell HK7.out 0
        have d1 := Bk.cell HK7.out 1
        simp only [List.getElem?_cons_zero, List.getElem?_cons_succ] at d0 d1
        have hf7 := Bk.fz HK7.out
        clear ho hb hb6 k0 k1 kf
        go_wp2_with (refine SF.app rfl _ _ rfl (r + 1) (.slice none 0 0) [] rfl ?ownB _ xs0 rfl ?rdB (by have h1 := HNs.out; have h2 := HM.out.len; simp; omega) ?bsB ?_)
        case ownB => exact Knd.Own.nil _ _
        case rdB => exact HS.out.below HB7.out
        case bsB => exact HZ7.out
        intro v8 w8 ho hb hg8 _
        try rw [List.nil_append] at ho
        obtain ⟨a8, c8, e8⟩ := ho.slice
        rw [show xs0.length = ns0 by rw [HNs.out]; exact HM.out.len] at e8
        subst e8
        clear hw7 q0 q1 hf6
        have hfg : Fr (fun j => w7.heap.size ≤ j) w7 w8 := by
         refine (Fr.grown hg8).mono fun j hj q => ?_
         simp [Value.ownBlock] at q
        have hbb8 : Below w7.heap.size w7 w8 := hfg.to (Nat.le_refl _) (fun j hj q => absurd hj (Nat.not_lt.2 q))
        have HK8 := Lib.hid (HK7.out.below hbb8)
        have g0 := Bk.cell HK8.out 0
        have g1 := Bk.cell HK8.out 1
        simp only [List.getElem?_cons_zero, List.getElem?_cons_succ] at g0 g1
        have hf8 := Bk.fz HK8.out
        obtain ⟨w9, hw9⟩ : ∃ q, w8.setCell ⟨r, 1, none⟩ (.slice a8 ns0 c8) = q := ⟨_, rfl⟩
        have HMac8 := Lib.hid (HMac7.out.on hbb8)
        have HF9 : Hid (Fr (fun j => j = r) w8 w9) := Lib.hid (by rw [← hw9]; exact Fr.set w8 ⟨r, 1, none⟩ (.slice a8 ns0 c8))
        have ne9 : ∀ k cs fr, w8.heap[k]? = some (.cells cs 9 fr) → ¬ k = r := fun k cs fr e q => by
         subst q
         rw [HK8.out] at e
         injection e with e
         injection e with _ e2
         exact absurd e2 (by decide)
        have HJ0 : Hid (JS X g d bk sb (r + 1) r (1000 + 0) 0 (.slice a6 n0 c6) (.slice a8 ns0 c8) xs0 ⟨l0, s0⟩ ⟨l0, s0⟩ w9) := Lib.hid (by
         refine ⟨HMac8.out.frA HML.out HF9.out (r := r) (fun j q => by have q' : j = r := q; omega) HLt.out.2.2.2.2 ⟨HLt.out.1, HLt.out.2.1, HLt.out.2.2.1, HLt.out.2.2.2.1⟩ (Nat.le_of_lt HK8.out.lt) ne9, ⟨⟨?_, ?_, Nat.lt_succ_self r⟩, ?_, ?_⟩, HSm.out, HML.out, ⟨HLt.out.1, HLt.out.2.1, HLt.out.2.2.1, HLt.out.2.2.2.1, HLt.out.2.2.2.2, ?_⟩, ⟨by have := HNs.out; show s0.length ≤ 60 + 0; omega, by have := HN0.out; show l0.length ≤ 60 + 0; omega⟩⟩
         ·rw [← hw9]; exact HK8.out.set 1 _
         ·exact HF9.out.own (HO7.out.below hbb8) (fun q hq e => by have := HO7.out.from q hq; have e' : q = r := e; omega)
         ·rw [← hw9]; exact own_setA ho (Nat.lt_succ_self r) 1 _
         ·exact MatchR.g HM.out
         ·exact Nat.le_trans HZ7.out (Nat.le_trans hbb8.size HF9.out.size))
        clear ho hb hg8 hfg hbb8 ne9 d0 d1 hf7
        go_wp2_with fail
        clear hw9 g0 g1 hf8
        go_loopw [16] (fun i wr => ∃ (k : Nat) (v0 u : Value) (xs : List SG) (m : Mac), k ≤ n ∧ i = .int .i64 k ∧ Hid (JS X g d bk sb (r + 1) r (1000 + k) k v0 u xs m m wr)) (fun i _ => n - (intOf i).toNat)
        case atStart => exact ⟨0, _, _, _, _, Nat.zero_le _, rfl, HJ0⟩
        case round =>
         clear HJ0
         obtain ⟨k, v0, u, xs, m, hk, rfl, HJ⟩ := hrel
         by_cases hlt : k < n
         ·have hlt' : (k : Int) < (n : Int) := by omega
          have hlt2 : decide (k < n) = true := decide_eq_true hlt
          have hkl : k < ts.length := by have := HN.out; omega
          rcases HC.out.2 with h0 | ⟨gc, off, ha, hg, hcm⟩
          ·exfalso
           rw [h0] at hkl
           simp at hkl
          have hcm1 := hcm k hkl
          have hsz := HSn.out k hkl
          obtain ⟨t, ht⟩ : ∃ t, ts.getD k default = t := ⟨_, rfl⟩
          rw [ht] at hcm1 hsz
          have HP : Hid (t.pa.size ≤ 1000) := Lib.hid (by omega)
          have HCmX := Lib.hid hcm1
          have HGc := Lib.hid hg
          subst ha
          have HKc : Hid (∀ wq, Below X.heap.size X wq → (wq.cell? ⟨gc, off + k * 8, none⟩ = some (.int .i64 t.cl) ∧ wq.cell? ⟨gc, off + k * 8 + 1, none⟩ = some (.int .i64 t.sq) ∧ wq.cell? ⟨gc, off + k * 8 + 2, none⟩ = some (.int .i64 t.op) ∧ wq.cell? ⟨gc, off + k * 8 + 3, none⟩ = some (.string t.pa) ∧ wq.cell? ⟨gc, off + k * 8 + 4, none⟩ = some (.string t.va) ∧ wq.cell? ⟨gc, off + k * 8 + 5, none⟩ = some (.int .i64 t.ver) ∧ wq.cell? ⟨gc, off + k * 8 + 6, none⟩ = some (.int .i64 t.a) ∧ wq.cell? ⟨gc, off + k * 8 + 7, none⟩ = some (.int .i64 t.b) ∧ wq.cell? ⟨b7, 0, none⟩ = some (.int .i64 R.err) ∧ wq.cell? ⟨b7, 1, none⟩ = some (.string R.val) ∧ wq.cell? ⟨b7, 2, none⟩ = some (.int .i64 R.ver) ∧ wq.cell? ⟨b7, 3, none⟩ = some (.slice ca cn cc))) := Lib.hid fun wq hq => by
           obtain ⟨m0, m1, m2, m3, m4, m5, m6, m7⟩ := HCmX.out.below HGc.out hq
           have hb := HBx7.out.below hq
           exact ⟨m0, m1, m2, m3, m4, m5, m6, m7, hb.cell 0, hb.cell 1, hb.cell 2, hb.cell 3⟩
          have HKd : Hid (∀ wq, Below X.heap.size X wq → (wq.cell? ⟨gc, off + k * 8, none⟩ = some (.int .i64 t.cl) ∧ wq.cell? ⟨gc, off + k * 8 + 1, none⟩ = some (.int .i64 t.sq) ∧ wq.cell? ⟨gc, off + k * 8 + 2, none⟩ = some (.int .i64 t.op) ∧ wq.cell? ⟨gc, off + k * 8 + 3, none⟩ = some (.string t.pa) ∧ wq.cell? ⟨gc, off + k * 8 + 4, none⟩ = some (.string t.va) ∧ wq.cell? ⟨gc, off + k * 8 + 5, none⟩ = some (.int .i64 t.ver) ∧ wq.cell? ⟨gc, off + k * 8 + 6, none⟩ = some (.int .i64 t.a) ∧ wq.cell? ⟨gc, off + k * 8 + 7, none⟩ = some (.int .i64 t.b))) := Lib.hid fun wq hq => by
           obtain ⟨m0, m1, m2, m3, m4, m5, m6, m7⟩ := HCmX.out.below HGc.out hq
           exact ⟨m0, m1, m2, m3, m4, m5, m6, m7⟩
          have HKk : Hid (k ≤ 1000) := Lib.hid (by omega)
          obtain ⟨⟨⟨er, vl, vr, ns⟩, m2⟩, hR⟩ : ∃ q, appM m t R = q := ⟨_, rfl⟩
          have HRq := Lib.hid hR
          obtain ⟨M, hM⟩ : ∃ q, ns.length = q := ⟨_, rfl⟩
          have HMn := Lib.hid hM
          have HVX : Hid (SK.Rd X (.slice ca cn cc) R.names) := HVc
          have HAp : Hid (∀ wq, JS X g d bk sb (r + 1) r (1000 + k) k v0 u xs m m wq → Calls Tryz.prog 20 #[dP g, cmV t, repV R (.slice ca cn cc)] wq (MApP (⟨er, vl, vr, ns⟩, m2) X g d bk sb (1000 + k) wq)) := Lib.hid fun wq hq => by
           have := mapply_any hq.mac hq.sm t R (.slice ca cn cc) (HVX.out.below hq.below) HCl.out trivial (by omega) HP.out
           rwa [HRq.out] at this
          have HRA : Hid (∀ wq, JS X g d bk sb (r + 1) r (1000 + k + 1) k v0 u xs m m2 wq → Calls Tryz.prog 21 #[.pointer (some ⟨r, 0, none⟩), cmV t, repV R (.slice ca cn cc)] wq (fun e w' => ∃ v' u' xs' v6, Hid (e = .returned (repV ⟨er, vl, vr, ns⟩ v6)) ∧ NG X w' v6 ns ∧ JS X g d bk sb (r + 1) r (1000 + (k + 1)) (k + 1) v' u' xs' m2 m2 w' ∧ Fr (fun j => j = r ∨ v0.ownBlock = some j) wq w')) := Lib.hid fun wq hq => by
           have hrm := HJ.out.mac.right
           refine (rmapply_any hq.rm hq.below HLt.out.2.2.2.2 hq.lt.2.2.2.2.2 hrm (by have := HJ.out.ls.2; omega) (by have := HJ.out.ls.1; omega) (fun x hx => okP_size (hrm.dir.keys x hx)) (fun x hx => by have := HJ.out.mac.lw.ver x hx; exact ⟨this.1, by omega⟩) t R (.slice ca cn cc) HVX.out HP.out).mono ?_
           intro e w' hpost
           obtain ⟨v', u', xs', hj⟩ := JS.next (t := t) (c := R) (by rw [HRq.out]; exact hq) hrm hpost
           obtain ⟨⟨v6, he, hng⟩, _, hf⟩ := hpost
           rw [HRq.out] at he hng hj
           exact ⟨v', u', xs', v6, he, hng, hj, hf⟩
          obtain ⟨t0, t1, t2, t3, t4, t5, t6, t7, x0, x1, x2, x3⟩ := HKc.out wr HJ.out.below
          clear hcm hcm1 hsz hg ht hR hM hkl
          go_wp2_with fail
          clear t0 t1 t2 t3 t4 t5 t6 t7 x0 x1 x2 x3
          refine wp_region_held_drew (S := (fun w' => w'.cell? ⟨gc, off + k * 8, none⟩ = some (.int .i64 t.cl) ∧ w'.cell? ⟨gc, off + k * 8 + 1, none⟩ = some (.int .i64 t.sq) ∧ w'.cell? ⟨gc, off + k * 8 + 2, none⟩ = some (.int .i64 t.op) ∧ w'.cell? ⟨gc, off + k * 8 + 3, none⟩ = some (.string t.pa) ∧ w'.cell? ⟨gc, off + k * 8 + 4, none⟩ = some (.string t.va) ∧ w'.cell? ⟨gc, off + k * 8 + 5, none⟩ = some (.int .i64 t.ver) ∧ w'.cell? ⟨gc, off + k * 8 + 6, none⟩ = some (.int .i64 t.a) ∧ w'.cell? ⟨gc, off + k * 8 + 7, none⟩ = some (.int .i64 t.b) ∧ w'.cell? ⟨b7, 0, none⟩ = some (.int .i64 R.err) ∧ w'.cell? ⟨b7, 1, none⟩ = some (.string R.val) ∧ w'.cell? ⟨b7, 2, none⟩ = some (.int .i64 R.ver) ∧ w'.cell? ⟨b7, 3, none⟩ = some (.slice ca cn cc))) (by kernel_rfl) ?_ (fun hHeld => ?_)
          ·((first
           | exact HKc.out _ (HJ5.out.below)
           | exact HKc.out _ (HJ.out.below)
           | exact HKc.out _ ((HJ.out.on (Below.refl _ _).drew).below)
           | exact HKc.out _ (HJe.out.below)
           | exact HKc.out _ (HJd.out.below)
           | exact HKc.out _ (HJc.out.below)
           | exact HKc.out _ (HJb.out.below)
           | exact HKc.out _ (HJa.out.below)
           | fail))
          (refine tkA 0 (v := ?_) ?_ ?_; rotate_left; focus (intro w hSw; (try dsimp only at hSw); go_simp; try rfl)); try simp only [Act.put, gA1, gA2, gA3, gA4, gA5, gA6]
          (refine tkA 1 (v := ?_) ?_ ?_; rotate_left; focus (intro w hSw; (try dsimp only at hSw); go_simp; try rfl)); try simp only [Act.put, gA1, gA2, gA3, gA4, gA5, gA6]
          (refine tkA 2 (v := ?_) ?_ ?_; rotate_left; focus (intro w hSw; (try dsimp only at hSw); go_simp; try rfl)); try simp only [Act.put, gA1, gA2, gA3, gA4, gA5, gA6]
          (refine tkA 3 (v := ?_) ?_ ?_; rotate_left; focus (intro w hSw; (try dsimp only at hSw); go_simp; try rfl)); try simp only [Act.put, gA1, gA2, gA3, gA4, gA5, gA6]
          (refine tkA 4 (v := ?_) ?_ ?_; rotate_left; focus (intro w hSw; (try dsimp only at hSw); go_simp; try rfl)); try simp only [Act.put, gA1, gA2, gA3, gA4, gA5, gA6]
          (refine tkA 5 (v := ?_) ?_ ?_; rotate_left; focus (intro w hSw; (try dsimp only at hSw); go_simp; try rfl)); try simp only [Act.put, gA1, gA2, gA3, gA4, gA5, gA6]
          refine wpAnyH_ready (rs := [6, 7]) (by kernel_rfl) (by simp) ?_
          refine (AllReadyH.cons rfl (fun K hK => ?_) (AllReadyH.cons rfl (fun K hK => ?_) AllReadyH.nil))
          ·
           go_simp
           (go_at_call 20; first | (refine (HAp.out _ HJa.out).mono ?_; rintro e w5 ⟨v5, he, hro, hm5, ht5⟩; have he := he.out; subst he; simp only at hro hm5; obtain ⟨a5, c5, ev⟩ := hro.slice; rw [HMn.out] at ev; subst ev; have HJ5 := Lib.hid (japp HRq.out HJa.out hm5 ht5 HCl.out HKk.out); have HO5 := Lib.hid (hro.base (b2 := X.heap.size) (by have q := HJa.out.below.size; exact q)); have HBx := Lib.hid (bk_two HBa.out ht5 (by have q1 := HJa.out.lt; have q2 := HPr.out; omega) (by have q1 := HJa.out.lt; have q2 := HPr.out; omega)); clear hro hm5 ht5) | (refine (HAp.out _ (HJ.out.on (Below.refl _ _).drew)).mono ?_; rintro e w5 ⟨v5, he, hro, hm5, ht5⟩; have he := he.out; subst he; simp only at hro hm5; obtain ⟨a5, c5, ev⟩ := hro.slice; rw [HMn.out] at ev; subst ev; have HJ5 := Lib.hid (japp HRq.out (HJ.out.on (Below.refl _ _).drew) hm5 ht5 HCl.out HKk.out); have HO5 := Lib.hid (hro.base (b2 := X.heap.size) (by have q := (HJ.out.on (Below.refl _ _).drew).below.size; exact q)); clear hro hm5 ht5) | fail)
           refine hK.out _ _ ?_ (fun hHeld => ?_)
           ·((first
           | exact HKc.out _ (HJ5.out.below)
           | exact HKc.out _ (HJ.out.below)
           | exact HKc.out _ ((HJ.out.on (Below.refl _ _).drew).below)
           | exact HKc.out _ (HJe.out.below)
           | exact HKc.out _ (HJd.out.below)
           | exact HKc.out _ (HJc.out.below)
           | exact HKc.out _ (HJb.out.below)
           | exact HKc.out _ (HJa.out.below)
           | fail))
           clear hK K
           try simp only [Act.put, gA1, gA2, gA3, gA4, gA5, gA6]
           refine wpAnyH_ready (rs := [7]) (by kernel_rfl) (by simp) ?_
           refine (AllReadyH.cons rfl (fun K hK => ?_) AllReadyH.nil)
           refine step_allocRep rfl rfl (fun p wb hbx hbb hpp => ?_)
           first
            | (have HJb := Lib.hid (HJ5.out.on hbb); have HRo := Lib.hid (HO5.out.below hbb); have HBx := Lib.hid hbx; have HPr : Hid (r ≤ p) := Lib.hid (by have q1 := HJ5.out.lt.2.2.2.2.2; have q2 := HJ5.out.rm.rd.lt; omega))
            | (have HJa := Lib.hid (HJ.out.on ((Below.refl _ _).drew.trans (hbb.mono (Nat.le_refl _)))); have HBa := Lib.hid hbx; have HPr : Hid (r ≤ p) := Lib.hid (by have q1 := HJ.out.lt.2.2.2.2.2; have q2 := HJ.out.rm.rd.lt; have q3 : wr.heap.size ≤ p := hpp; omega))
            | fail
           refine hK.out _ _ ?_ (fun hHeld => ?_)
           ·((first
           | exact HKc.out _ (HJ5.out.below)
           | exact HKc.out _ (HJ.out.below)
           | exact HKc.out _ ((HJ.out.on (Below.refl _ _).drew).below)
           | exact HKc.out _ (HJe.out.below)
           | exact HKc.out _ (HJd.out.below)
           | exact HKc.out _ (HJc.out.below)
           | exact HKc.out _ (HJb.out.below)
           | exact HKc.out _ (HJa.out.below)
           | fail))
           clear hK K
           try simp only [Act.put, gA1, gA2, gA3, gA4, gA5, gA6]
           refine wpAnyH_ready (rs := [8]) (by kernel_rfl) (by simp) ?_
           refine (AllReadyH.cons rfl (fun K hK => ?_) AllReadyH.nil)
           refine step_storeRep rfl _ _ rfl p rfl er vl vr a5 M c5 rfl HBx.out (fun w8 hb8 hf8 => ?_)
           first
            | (have HJc := Lib.hid (HJb.out.box HBx.out HPr.out hf8); have HR8 := Lib.hid (sk_box HRo.out HBx.out hf8))
            | (have HJc := Lib.hid (HJ5.out.box HBx.out HPr.out hf8); have HR8 := Lib.hid (sk_box HO5.out HBx.out hf8))
            | fail
           refine hK.out _ _ ?_ (fun hHeld => ?_)
           ·((first
           | exact HKc.out _ (HJ5.out.below)
           | exact HKc.out _ (HJ.out.below)
           | exact HKc.out _ ((HJ.out.on (Below.refl _ _).drew).below)
           | exact HKc.out _ (HJe.out.below)
           | exact HKc.out _ (HJd.out.below)
           | exact HKc.out _ (HJc.out.below)
           | exact HKc.out _ (HJb.out.below)
           | exact HKc.out _ (HJa.out.below)
           | fail))
           clear hK K
           try simp only [Act.put, gA1, gA2, gA3, gA4, gA5, gA6]
           refine wpAnyH_done (by kernel_rfl) ?_ _
           have HJd := HJc
           have HBd := Lib.hid hb8
           have HOd := HR8
           clear HJ
           go_wp2_with fail
           refine wp_region_held_drew (S := (fun w' => w'.cell? ⟨gc, off + k * 8, none⟩ = some (.int .i64 t.cl) ∧ w'.cell? ⟨gc, off + k * 8 + 1, none⟩ = some (.int .i64 t.sq) ∧ w'.cell? ⟨gc, off + k * 8 + 2, none⟩ = some (.int .i64 t.op) ∧ w'.cell? ⟨gc, off + k * 8 + 3, none⟩ = some (.string t.pa) ∧ w'.cell? ⟨gc, off + k * 8 + 4, none⟩ = some (.string t.va) ∧ w'.cell? ⟨gc, off + k * 8 + 5, none⟩ = some (.int .i64 t.ver) ∧ w'.cell? ⟨gc, off + k * 8 + 6, none⟩ = some (.int .i64 t.a) ∧ w'.cell? ⟨gc, off + k * 8 + 7, none⟩ = some (.int .i64 t.b) ∧ w'.cell? ⟨b7, 0, none⟩ = some (.int .i64 R.err) ∧ w'.cell? ⟨b7, 1, none⟩ = some (.string R.val) ∧ w'.cell? ⟨b7, 2, none⟩ = some (.int .i64 R.ver) ∧ w'.cell? ⟨b7, 3, none⟩ = some (.slice ca cn cc))) (by kernel_rfl) ?_ (fun hHeld => ?_)
           ·((first
            | exact HKc.out _ (HJd.out.below)
            | exact HKc.out _ ((HJd.out.on (Below.refl _ _).drew).below)
            | exact HKc.out _ (HJh.out.below)
            | exact HKc.out _ (HJg.out.below)
            | exact HKc.out _ (HJf.out.below)
            | exact HKc.out _ (HJe.out.below)
            | fail))
           (refine tkA 0 (v := ?_) ?_ ?_; rotate_left; focus (intro w hSw; (try dsimp only at hSw); go_simp; try rfl)); try simp only [Act.put, gA1, gA2, gA3, gA4, gA5, gA6]
           (refine tkA 1 (v := ?_) ?_ ?_; rotate_left; focus (intro w hSw; (try dsimp only at hSw); go_simp; try rfl)); try simp only [Act.put, gA1, gA2, gA3, gA4, gA5, gA6]
           (refine tkA 2 (v := ?_) ?_ ?_; rotate_left; focus (intro w hSw; (try dsimp only at hSw); go_simp; try rfl)); try simp only [Act.put, gA1, gA2, gA3, gA4, gA5, gA6]
           (refine tkA 3 (v := ?_) ?_ ?_; rotate_left; focus (intro w hSw; (try dsimp only at hSw); go_simp; try rfl)); try simp only [Act.put, gA1, gA2, gA3, gA4, gA5, gA6]
           (refine tkA 4 (v := ?_) ?_ ?_; rotate_left; focus (intro w hSw; (try dsimp only at hSw); go_simp; try rfl)); try simp only [Act.put, gA1, gA2, gA3, gA4, gA5, gA6]
           (refine tkA 5 (v := ?_) ?_ ?_; rotate_left; focus (intro w hSw; (try dsimp only at hSw); go_simp; try rfl)); try simp only [Act.put, gA1, gA2, gA3, gA4, gA5, gA6]
           refine wpAnyH_ready (rs := [6, 7]) (by kernel_rfl) (by simp) ?_
           refine (AllReadyH.cons rfl (fun K hK => ?_) (AllReadyH.cons rfl (fun K hK => ?_) AllReadyH.nil))
           ·
            go_simp
            (go_at_call 21; first | (refine (HRA.out _ HJe.out).mono ?_; rintro e w6 ⟨v', u', xs', v6, he, hng, hj6, hf6⟩; have he := he.out; subst he; obtain ⟨a6, c6, ev⟩ := hng.slice; rw [HMn.out] at ev; subst ev; have HJf := Lib.hid hj6; have HGf := Lib.hid hng; have HBf := Lib.hid (bk_rm HBe.out HJe.out.rm hf6); have HOf := Lib.hid (sk_rm HOe.out HJe.out.rm hf6); have HBy := Lib.hid (bk_rm HBz.out HJe.out.rm hf6); clear hng hj6 hf6) | (refine (HRA.out _ (HJd.out.on (Below.refl _ _).drew)).mono ?_; rintro e w6 ⟨v', u', xs', v6, he, hng, hj6, hf6⟩; have he := he.out; subst he; obtain ⟨a6, c6, ev⟩ := hng.slice; rw [HMn.out] at ev; subst ev; have HJf := Lib.hid hj6; have HGf := Lib.hid hng; have HBf := Lib.hid (bk_rm (HBd.out.below (Below.refl _ _).drew) (HJd.out.on (Below.refl _ _).drew).rm hf6); have HOf := Lib.hid (sk_rm (HOd.out.below (Below.refl _ _).drew) (HJd.out.on (Below.refl _ _).drew).rm hf6); have HPq : Hid (∀ q, w6.heap.size ≤ q → p ≠ q) := Lib.hid (fun q hq => by have q1 := HBf.out.lt; omega); clear hng hj6 hf6) | fail)
            refine hK.out _ _ ?_ (fun hHeld => ?_)
            ·((first
            | exact HKc.out _ (HJd.out.below)
            | exact HKc.out _ ((HJd.out.on (Below.refl _ _).drew).below)
            | exact HKc.out _ (HJh.out.below)
            | exact HKc.out _ (HJg.out.below)
            | exact HKc.out _ (HJf.out.below)
            | exact HKc.out _ (HJe.out.below)
            | fail))
            clear hK K
            try simp only [Act.put, gA1, gA2, gA3, gA4, gA5, gA6]
            refine wpAnyH_ready (rs := [7]) (by kernel_rfl) (by simp) ?_
            refine (AllReadyH.cons rfl (fun K hK => ?_) AllReadyH.nil)
            refine step_allocRep rfl rfl (fun p2 wb hbx hbb hpp => ?_)
            first
             | (have HJg := Lib.hid (HJf.out.on hbb); have HBf2 := Lib.hid (HBf.out.below hbb); have HOf2 := Lib.hid (HOf.out.below hbb); have HGf2 := Lib.hid (HGf.out.on hbb); have HBy := Lib.hid hbx; have HPr2 : Hid (r ≤ p2) := Lib.hid (by have q1 := HJf.out.lt.2.2.2.2.2; have q2 := HJf.out.rm.rd.lt; omega))
             | (have HJe := Lib.hid (HJd.out.on ((Below.refl _ _).drew.trans (hbb.mono (Nat.le_refl _)))); have HBe := Lib.hid (HBd.out.below ((Below.refl _ _).drew.trans (hbb.mono (Nat.le_refl _)))); have HOe := Lib.hid (HOd.out.below ((Below.refl _ _).drew.trans (hbb.mono (Nat.le_refl _)))); have HBz := Lib.hid hbx; have HPr2 : Hid (r ≤ p2) := Lib.hid (by have q1 := HJd.out.lt.2.2.2.2.2; have q2 := HJd.out.rm.rd.lt; have q3 : w8.heap.size ≤ p2 := hpp; omega); have HPp : Hid (p ≠ p2) := Lib.hid (by have q1 := HBd.out.lt; have q3 : w8.heap.size ≤ p2 := hpp; omega))
             | fail
            refine hK.out _ _ ?_ (fun hHeld => ?_)
            ·((first
            | exact HKc.out _ (HJd.out.below)
            | exact HKc.out _ ((HJd.out.on (Below.refl _ _).drew).below)
            | exact HKc.out _ (HJh.out.below)
            | exact HKc.out _ (HJg.out.below)
            | exact HKc.out _ (HJf.out.below)
            | exact HKc.out _ (HJe.out.below)
            | fail))
            clear hK K
            try simp only [Act.put, gA1, gA2, gA3, gA4, gA5, gA6]
            refine wpAnyH_ready (rs := [8]) (by kernel_rfl) (by simp) ?_
            refine (AllReadyH.cons rfl (fun K hK => ?_) AllReadyH.nil)
            refine step_storeRep rfl _ _ rfl p2 rfl er vl vr a6 M c6 rfl HBy.out (fun w9 hb9 hf9 => ?_)
            first
             | (have HJh := Lib.hid (HJg.out.box HBy.out HPr2.out hf9); have HB9 := Lib.hid (hf9.bk HBf2.out (by have q := HBf.out.lt; show ¬ p = p2; exact HPq.out p2 hpp)); have HO9 := Lib.hid (sk_box HOf2.out HBy.out hf9); have HG9 := Lib.hid (ng_box HGf2.out HBy.out hf9))
             | (have HJh := Lib.hid (HJf.out.box HBy.out HPr2.out hf9); have HB9 := Lib.hid (hf9.bk HBf.out (by show ¬ p = p2; exact HPp.out)); have HO9 := Lib.hid (sk_box HOf.out HBy.out hf9); have HG9 := Lib.hid (ng_box HGf.out HBy.out hf9))
             | fail
            refine hK.out _ _ ?_ (fun hHeld => ?_)
            ·((first
            | exact HKc.out _ (HJd.out.below)
            | exact HKc.out _ ((HJd.out.on (Below.refl _ _).drew).below)
            | exact HKc.out _ (HJh.out.below)
            | exact HKc.out _ (HJg.out.below)
            | exact HKc.out _ (HJf.out.below)
            | exact HKc.out _ (HJe.out.below)
            | fail))
            clear hK K
            try simp only [Act.put, gA1, gA2, gA3, gA4, gA5, gA6]
            refine wpAnyH_done (by kernel_rfl) ?_ _
            have HJ9 := HJh
            clear HKc
            have q0 := Bk.cell hb9 0
            have q1 := Bk.cell hb9 1
            have q2 := Bk.cell hb9 2
            have q3 := Bk.cell hb9 3
            simp only [List.getElem?_cons_zero, List.getElem?_cons_succ] at q0 q1 q2 q3
            have y0 := Bk.cell HB9.out 0
            have y1 := Bk.cell HB9.out 1
            have y2 := Bk.cell HB9.out 2
            have y3 := Bk.cell HB9.out 3
            simp only [List.getElem?_cons_zero, List.getElem?_cons_succ] at y0 y1 y2 y3
            have HNa : Hid (Nms w9 (.slice a5 M c5) ns) := Lib.hid (sk_nms HO9.out.rd)
            have HNb : Hid (Nms w9 (.slice a6 M c6) ns) := Lib.hid (HG9.out.nms HJ9.out.below)
            have HSm := Lib.hid (same_any ⟨er, vl, vr, ns⟩ (.slice a5 M c5) (.slice a6 M c6) w9 HNa.out HNb.out)
            go_wp2_with fail
            refine HSm.out.mono ?_
            rintro e w7 ⟨rfl, hb⟩
            have HJ7 := Lib.hid (HJ9.out.on hb)
            obtain ⟨vt, hvt⟩ : ∃ q, valS t.cl t.sq = q := ⟨_, rfl⟩
            have HVt := Lib.hid hvt
            have z1 : (vt != vt) = false := by simp
            have z2 : (vt == vt) = true := by simp
            clear hb q0 q1 q2 q3 y0 y1 y2 y3 hb9 hf9 hvt
            go_wp2_with fail
            refine wp_region_held_drew (S := (fun w' => w'.cell? ⟨gc, off + k * 8, none⟩ = some (.int .i64 t.cl) ∧ w'.cell? ⟨gc, off + k * 8 + 1, none⟩ = some (.int .i64 t.sq) ∧ w'.cell? ⟨gc, off + k * 8 + 2, none⟩ = some (.int .i64 t.op) ∧ w'.cell? ⟨gc, off + k * 8 + 3, none⟩ = some (.string t.pa) ∧ w'.cell? ⟨gc, off + k * 8 + 4, none⟩ = some (.string t.va) ∧ w'.cell? ⟨gc, off + k * 8 + 5, none⟩ = some (.int .i64 t.ver) ∧ w'.cell? ⟨gc, off + k * 8 + 6, none⟩ = some (.int .i64 t.a) ∧ w'.cell? ⟨gc, off + k * 8 + 7, none⟩ = some (.int .i64 t.b))) (by kernel_rfl) ?_ (fun hHeld => ?_)
            ·((first
             | exact HKd.out _ HJ7.out.below
             | exact HKd.out _ (HJ7.out.on (Below.refl _ _).drew).below
             | (go_split_ands; exact HKd.out _ (HJ7.out.on hbw1).below)
             | (go_split_ands; exact HKd.out _ (HJ7.out.on (hbw1.trans (hbw2.mono hbw1.size))).below)
             | fail))
            (refine tkA 0 (v := ?_) ?_ ?_; rotate_left; focus (intro w hSw; (try dsimp only at hSw); go_simp; try rfl)); try simp only [Act.put, gA1, gA2, gA3, gA4, gA5, gA6]
            (refine tkA 1 (v := ?_) ?_ ?_; rotate_left; focus (intro w hSw; (try dsimp only at hSw); go_simp; try rfl)); try simp only [Act.put, gA1, gA2, gA3, gA4, gA5, gA6]
            (refine tkA 2 (v := ?_) ?_ ?_; rotate_left; focus (intro w hSw; (try dsimp only at hSw); go_simp; try rfl)); try simp only [Act.put, gA1, gA2, gA3, gA4, gA5, gA6]
            (refine tkA 3 (v := ?_) ?_ ?_; rotate_left; focus (intro w hSw; (try dsimp only at hSw); go_simp; try rfl)); try simp only [Act.put, gA1, gA2, gA3, gA4, gA5, gA6]
            (refine tkA 4 (v := ?_) ?_ ?_; rotate_left; focus (intro w hSw; (try dsimp only at hSw); go_simp; try rfl)); try simp only [Act.put, gA1, gA2, gA3, gA4, gA5, gA6]
            (refine tkA 5 (v := ?_) ?_ ?_; rotate_left; focus (intro w hSw; (try dsimp only at hSw); go_simp; try rfl)); try simp only [Act.put, gA1, gA2, gA3, gA4, gA5, gA6]
            (refine tkA 6 (v := ?_) ?_ ?_; rotate_left; focus (intro w hSw; (try dsimp only at hSw); go_simp; try rfl)); try simp only [Act.put, gA1, gA2, gA3, gA4, gA5, gA6]
            (refine tkA 8 (v := ?_) ?_ ?_; rotate_left; focus (intro w hSw; (try dsimp only at hSw); go_simp; try rfl)); try simp only [Act.put, gA1, gA2, gA3, gA4, gA5, gA6]
            (refine tkA 9 (v := ?_) ?_ ?_; rotate_left; focus (intro w hSw; (try dsimp only at hSw); go_simp; try rfl)); try simp only [Act.put, gA1, gA2, gA3, gA4, gA5, gA6]
            (refine tkA 10 (v := ?_) ?_ ?_; rotate_left; focus (intro w hSw; (try dsimp only at hSw); go_simp; try rfl)); try simp only [Act.put, gA1, gA2, gA3, gA4, gA5, gA6]
            (refine tkA 11 (v := ?_) ?_ ?_; rotate_left; focus (intro w hSw; (try dsimp only at hSw); go_simp; try rfl)); try simp only [Act.put, gA1, gA2, gA3, gA4, gA5, gA6]
            refine wpAnyH_ready (rs := [7]) (by kernel_rfl) (by simp) ?_
            refine (AllReadyH.cons rfl (fun K hK => ?_) AllReadyH.nil)
            go_simp
            (first | (go_at_call 22; refine (valid9_any t.cl t.sq t.op t.pa t.va t.ver t.a t.b _).mono ?_; rintro e w10 ⟨rfl, hb⟩; have hbw1 : Below w7.heap.size w7 w10 := below_self (Below.refl _ _).drew hb; clear hb; rw [HVt.out]) | (go_at_call 23; refine (rvalid9_any t.cl t.sq t.op t.pa t.va t.ver t.a t.b _).mono ?_; rintro e w11 ⟨rfl, hb⟩; have hbw2 : Below w10.heap.size w10 w11 := hb; clear hb; rw [HVt.out]) | fail)
            refine hK.out _ _ ?_ (fun hHeld => ?_)
            ·((first
             | exact HKd.out _ HJ7.out.below
             | exact HKd.out _ (HJ7.out.on (Below.refl _ _).drew).below
             | (go_split_ands; exact HKd.out _ (HJ7.out.on hbw1).below)
             | (go_split_ands; exact HKd.out _ (HJ7.out.on (hbw1.trans (hbw2.mono hbw1.size))).below)
             | fail))
            clear hK K
            try simp only [Act.put, gA1, gA2, gA3, gA4, gA5, gA6]
            refine wpAnyH_ready (rs := [12]) (by kernel_rfl) (by simp) ?_
            refine (AllReadyH.cons rfl (fun K hK => ?_) AllReadyH.nil)
            go_simp
            (first | (go_at_call 22; refine (valid9_any t.cl t.sq t.op t.pa t.va t.ver t.a t.b _).mono ?_; rintro e w10 ⟨rfl, hb⟩; have hbw1 : Below w7.heap.size w7 w10 := below_self (Below.refl _ _).drew hb; clear hb; rw [HVt.out]) | (go_at_call 23; refine (rvalid9_any t.cl t.sq t.op t.pa t.va t.ver t.a t.b _).mono ?_; rintro e w11 ⟨rfl, hb⟩; have hbw2 : Below w10.heap.size w10 w11 := hb; clear hb; rw [HVt.out]) | fail)
            refine hK.out _ _ ?_ (fun hHeld => ?_)
            ·((first
             | exact HKd.out _ HJ7.out.below
             | exact HKd.out _ (HJ7.out.on (Below.refl _ _).drew).below
             | (go_split_ands; exact HKd.out _ (HJ7.out.on hbw1).below)
             | (go_split_ands; exact HKd.out _ (HJ7.out.on (hbw1.trans (hbw2.mono hbw1.size))).below)
             | fail))
            clear hK K
            try simp only [Act.put, gA1, gA2, gA3, gA4, gA5, gA6]
            (refine tkA 13 (v := ?_) ?_ ?_; rotate_left; focus (intro w hSw; (try dsimp only at hSw); go_simp; try rfl)); try simp only [Act.put, gA1, gA2, gA3, gA4, gA5, gA6]
            (refine tkA 14 (v := ?_) ?_ ?_; rotate_left; focus (intro w hSw; (try dsimp only at hSw); go_simp; try rfl)); try simp only [Act.put, gA1, gA2, gA3, gA4, gA5, gA6]
            refine wpAnyH_done (by kernel_rfl) ?_ _
            have HJ8 := Lib.hid (HJ7.out.on (hbw1.trans (hbw2.mono hbw1.size)))
            clear hbw1 hbw2 HJ7 HKd
            go_wp2
            go_roundw
            case rel => exact ⟨k + 1, _, _, _, m2, by omega, by go_num, HJ8⟩
            case measure => simp [intOf]; omega
           ·
            refine step_allocRep rfl rfl (fun p2 wb hbx hbb hpp => ?_)
            first
             | (have HJg := Lib.hid (HJf.out.on hbb); have HBf2 := Lib.hid (HBf.out.below hbb); have HOf2 := Lib.hid (HOf.out.below hbb); have HGf2 := Lib.hid (HGf.out.on hbb); have HBy := Lib.hid hbx; have HPr2 : Hid (r ≤ p2) := Lib.hid (by have q1 := HJf.out.lt.2.2.2.2.2; have q2 := HJf.out.rm.rd.lt; omega))
             | (have HJe := Lib.hid (HJd.out.on ((Below.refl _ _).drew.trans (hbb.mono (Nat.le_refl _)))); have HBe := Lib.hid (HBd.out.below ((Below.refl _ _).drew.trans (hbb.mono (Nat.le_refl _)))); have HOe := Lib.hid (HOd.out.below ((Below.refl _ _).drew.trans (hbb.mono (Nat.le_refl _)))); have HBz := Lib.hid hbx; have HPr2 : Hid (r ≤ p2) := Lib.hid (by have q1 := HJd.out.lt.2.2.2.2.2; have q2 := HJd.out.rm.rd.lt; have q3 : w8.heap.size ≤ p2 := hpp; omega); have HPp : Hid (p ≠ p2) := Lib.hid (by have q1 := HBd.out.lt; have q3 : w8.heap.size ≤ p2 := hpp; omega))
             | fail
            refine hK.out _ _ ?_ (fun hHeld => ?_)
            ·((first
            | exact HKc.out _ (HJd.out.below)
            | exact HKc.out _ ((HJd.out.on (Below.refl _ _).drew).below)
            | exact HKc.out _ (HJh.out.below)
            | exact HKc.out _ (HJg.out.below)
            | exact HKc.out _ (HJf.out.below)
            | exact HKc.out _ (HJe.out.below)
            | fail))
            clear hK K
            try simp only [Act.put, gA1, gA2, gA3, gA4, gA5, gA6]
            refine wpAnyH_ready (rs := [6]) (by kernel_rfl) (by simp) ?_
            refine (AllReadyH.cons rfl (fun K hK => ?_) AllReadyH.nil)
            go_simp
            (go_at_call 21; first | (refine (HRA.out _ HJe.out).mono ?_; rintro e w6 ⟨v', u', xs', v6, he, hng, hj6, hf6⟩; have he := he.out; subst he; obtain ⟨a6, c6, ev⟩ := hng.slice; rw [HMn.out] at ev; subst ev; have HJf := Lib.hid hj6; have HGf := Lib.hid hng; have HBf := Lib.hid (bk_rm HBe.out HJe.out.rm hf6); have HOf := Lib.hid (sk_rm HOe.out HJe.out.rm hf6); have HBy := Lib.hid (bk_rm HBz.out HJe.out.rm hf6); clear hng hj6 hf6) | (refine (HRA.out _ (HJd.out.on (Below.refl _ _).drew)).mono ?_; rintro e w6 ⟨v', u', xs', v6, he, hng, hj6, hf6⟩; have he := he.out; subst he; obtain ⟨a6, c6, ev⟩ := hng.slice; rw [HMn.out] at ev; subst ev; have HJf := Lib.hid hj6; have HGf := Lib.hid hng; have HBf := Lib.hid (bk_rm (HBd.out.below (Below.refl _ _).drew) (HJd.out.on (Below.refl _ _).drew).rm hf6); have HOf := Lib.hid (sk_rm (HOd.out.below (Below.refl _ _).drew) (HJd.out.on (Below.refl _ _).drew).rm hf6); have HPq : Hid (∀ q, w6.heap.size ≤ q → p ≠ q) := Lib.hid (fun q hq => by have q1 := HBf.out.lt; omega); clear hng hj6 hf6) | fail)
            refine hK.out _ _ ?_ (fun hHeld => ?_)
            ·((first
            | exact HKc.out _ (HJd.out.below)
            | exact HKc.out _ ((HJd.out.on (Below.refl _ _).drew).below)
            | exact HKc.out _ (HJh.out.below)
            | exact HKc.out _ (HJg.out.below)
            | exact HKc.out _ (HJf.out.below)
            | exact HKc.out _ (HJe.out.below)
            | fail))
            clear hK K
            try simp only [Act.put, gA1, gA2, gA3, gA4, gA5, gA6]
            refine wpAnyH_ready (rs := [8]) (by kernel_rfl) (by simp) ?_
            refine (AllReadyH.cons rfl (fun K hK => ?_) AllReadyH.nil)
            refine step_storeRep rfl _ _ rfl p2 rfl er vl vr a6 M c6 rfl HBy.out (fun w9 hb9 hf9 => ?_)
            first
             | (have HJh := Lib.hid (HJg.out.box HBy.out HPr2.out hf9); have HB9 := Lib.hid (hf9.bk HBf2.out (by have q := HBf.out.lt; show ¬ p = p2; exact HPq.out p2 hpp)); have HO9 := Lib.hid (sk_box HOf2.out HBy.out hf9); have HG9 := Lib.hid (ng_box HGf2.out HBy.out hf9))
             | (have HJh := Lib.hid (HJf.out.box HBy.out HPr2.out hf9); have HB9 := Lib.hid (hf9.bk HBf.out (by show ¬ p = p2; exact HPp.out)); have HO9 := Lib.hid (sk_box HOf.out HBy.out hf9); have HG9 := Lib.hid (ng_box HGf.out HBy.out hf9))
             | fail
            refine hK.out _ _ ?_ (fun hHeld => ?_)
            ·((first
            | exact HKc.out _ (HJd.out.below)
            | exact HKc.out _ ((HJd.out.on (Below.refl _ _).drew).below)
            | exact HKc.out _ (HJh.out.below)
            | exact HKc.out _ (HJg.out.below)
            | exact HKc.out _ (HJf.out.below)
            | exact HKc.out _ (HJe.out.below)
            | fail))
            clear hK K
            try simp only [Act.put, gA1, gA2, gA3, gA4, gA5, gA6]
            refine wpAnyH_done (by kernel_rfl) ?_ _
            have HJ9 := HJh
            clear HKc
            have q0 := Bk.cell hb9 0
            have q1 := Bk.cell hb9 1
            have q2 := Bk.cell hb9 2
            have q3 := Bk.cell hb9 3
            simp only [List.getElem?_cons_zero, List.getElem?_cons_succ] at q0 q1 q2 q3
            have y0 := Bk.cell HB9.out 0
            have y1 := Bk.cell HB9.out 1
            have y2 := Bk.cell HB9.out 2
            have y3 := Bk.cell HB9.out 3
            simp only [List.getElem?_cons_zero, List.getElem?_cons_succ] at y0 y1 y2 y3
            have HNa : Hid (Nms w9 (.slice a5 M c5) ns) := Lib.hid (sk_nms HO9.out.rd)
            have HNb : Hid (Nms w9 (.slice a6 M c6) ns) := Lib.hid (HG9.out.nms HJ9.out.below)
            have HSm := Lib.hid (same_any ⟨er, vl, vr, ns⟩ (.slice a5 M c5) (.slice a6 M c6) w9 HNa.out HNb.out)
            go_wp2_with fail
            refine HSm.out.mono ?_
            rintro e w7 ⟨rfl, hb⟩
            have HJ7 := Lib.hid (HJ9.out.on hb)
            obtain ⟨vt, hvt⟩ : ∃ q, valS t.cl t.sq = q := ⟨_, rfl⟩
            have HVt := Lib.hid hvt
            have z1 : (vt != vt) = false := by simp
            have z2 : (vt == vt) = true := by simp
            clear hb q0 q1 q2 q3 y0 y1 y2 y3 hb9 hf9 hvt
            go_wp2_with fail
            refine wp_region_held_drew (S := (fun w' => w'.cell? ⟨gc, off + k * 8, none⟩ = some (.int .i64 t.cl) ∧ w'.cell? ⟨gc, off + k * 8 + 1, none⟩ = some (.int .i64 t.sq) ∧ w'.cell? ⟨gc, off + k * 8 + 2, none⟩ = some (.int .i64 t.op) ∧ w'.cell? ⟨gc, off + k * 8 + 3, none⟩ = some (.string t.pa) ∧ w'.cell? ⟨gc, off + k * 8 + 4, none⟩ = some (.string t.va) ∧ w'.cell? ⟨gc, off + k * 8 + 5, none⟩ = some (.int .i64 t.ver) ∧ w'.cell? ⟨gc, off + k * 8 + 6, none⟩ = some (.int .i64 t.a) ∧ w'.cell? ⟨gc, off + k * 8 + 7, none⟩ = some (.int .i64 t.b))) (by kernel_rfl) ?_ (fun hHeld => ?_)
            ·((first
             | exact HKd.out _ HJ7.out.below
             | exact HKd.out _ (HJ7.out.on (Below.refl _ _).drew).below
             | (go_split_ands; exact HKd.out _ (HJ7.out.on hbw1).below)
             | (go_split_ands; exact HKd.out _ (HJ7.out.on (hbw1.trans (hbw2.mono hbw1.size))).below)
             | fail))
            (refine tkA 0 (v := ?_) ?_ ?_; rotate_left; focus (intro w hSw; (try dsimp only at hSw); go_simp; try rfl)); try simp only [Act.put, gA1, gA2, gA3, gA4, gA5, gA6]
            (refine tkA 1 (v := ?_) ?_ ?_; rotate_left; focus (intro w hSw; (try dsimp only at hSw); go_simp; try rfl)); try simp only [Act.put, gA1, gA2, gA3, gA4, gA5, gA6]
            (refine tkA 2 (v := ?_) ?_ ?_; rotate_left; focus (intro w hSw; (try dsimp only at hSw); go_simp; try rfl)); try simp only [Act.put, gA1, gA2, gA3, gA4, gA5, gA6]
            (refine tkA 3 (v := ?_) ?_ ?_; rotate_left; focus (intro w hSw; (try dsimp only at hSw); go_simp; try rfl)); try simp only [Act.put, gA1, gA2, gA3, gA4, gA5, gA6]
            (refine tkA 4 (v := ?_) ?_ ?_; rotate_left; focus (intro w hSw; (try dsimp only at hSw); go_simp; try rfl)); try simp only [Act.put, gA1, gA2, gA3, gA4, gA5, gA6]
            (refine tkA 5 (v := ?_) ?_ ?_; rotate_left; focus (intro w hSw; (try dsimp only at hSw); go_simp; try rfl)); try simp only [Act.put, gA1, gA2, gA3, gA4, gA5, gA6]
            (refine tkA 6 (v := ?_) ?_ ?_; rotate_left; focus (intro w hSw; (try dsimp only at hSw); go_simp; try rfl)); try simp only [Act.put, gA1, gA2, gA3, gA4, gA5, gA6]
            (refine tkA 8 (v := ?_) ?_ ?_; rotate_left; focus (intro w hSw; (try dsimp only at hSw); go_simp; try rfl)); try simp only [Act.put, gA1, gA2, gA3, gA4, gA5, gA6]
            (refine tkA 9 (v := ?_) ?_ ?_; rotate_left; focus (intro w hSw; (try dsimp only at hSw); go_simp; try rfl)); try simp only [Act.put, gA1, gA2, gA3, gA4, gA5, gA6]
            (refine tkA 10 (v := ?_) ?_ ?_; rotate_left; focus (intro w hSw; (try dsimp only at hSw); go_simp; try rfl)); try simp only [Act.put, gA1, gA2, gA3, gA4, gA5, gA6]
            (refine tkA 11 (v := ?_) ?_ ?_; rotate_left; focus (intro w hSw; (try dsimp only at hSw); go_simp; try rfl)); try simp only [Act.put, gA1, gA2, gA3, gA4, gA5, gA6]
            refine wpAnyH_ready (rs := [7]) (by kernel_rfl) (by simp) ?_
            refine (AllReadyH.cons rfl (fun K hK => ?_) AllReadyH.nil)
            go_simp
            (first | (go_at_call 22; refine (valid9_any t.cl t.sq t.op t.pa t.va t.ver t.a t.b _).mono ?_; rintro e w10 ⟨rfl, hb⟩; have hbw1 : Below w7.heap.size w7 w10 := below_self (Below.refl _ _).drew hb; clear hb; rw [HVt.out]) | (go_at_call 23; refine (rvalid9_any t.cl t.sq t.op t.pa t.va t.ver t.a t.b _).mono ?_; rintro e w11 ⟨rfl, hb⟩; have hbw2 : Below w10.heap.size w10 w11 := hb; clear hb; rw [HVt.out]) | fail)
            refine hK.out _ _ ?_ (fun hHeld => ?_)
            ·((first
             | exact HKd.out _ HJ7.out.below
             | exact HKd.out _ (HJ7.out.on (Below.refl _ _).drew).below
             | (go_split_ands; exact HKd.out _ (HJ7.out.on hbw1).below)
             | (go_split_ands; exact HKd.out _ (HJ7.out.on (hbw1.trans (hbw2.mono hbw1.size))).below)
             | fail))
            clear hK K
            try simp only [Act.put, gA1, gA2, gA3, gA4, gA5, gA6]
            refine wpAnyH_ready (rs := [12]) (by kernel_rfl) (by simp) ?_
            refine (AllReadyH.cons rfl (fun K hK => ?_) AllReadyH.nil)
            go_simp
            (first | (go_at_call 22; refine (valid9_any t.cl t.sq t.op t.pa t.va t.ver t.a t.b _).mono ?_; rintro e w10 ⟨rfl, hb⟩; have hbw1 : Below w7.heap.size w7 w10 := below_self (Below.refl _ _).drew hb; clear hb; rw [HVt.out]) | (go_at_call 23; refine (rvalid9_any t.cl t.sq t.op t.pa t.va t.ver t.a t.b _).mono ?_; rintro e w11 ⟨rfl, hb⟩; have hbw2 : Below w10.heap.size w10 w11 := hb; clear hb; rw [HVt.out]) | fail)
            refine hK.out _ _ ?_ (fun hHeld => ?_)
            ·((first
             | exact HKd.out _ HJ7.out.below
             | exact HKd.out _ (HJ7.out.on (Below.refl _ _).drew).below
             | (go_split_ands; exact HKd.out _ (HJ7.out.on hbw1).below)
             | (go_split_ands; exact HKd.out _ (HJ7.out.on (hbw1.trans (hbw2.mono hbw1.size))).below)
             | fail))
            clear hK K
            try simp only [Act.put, gA1, gA2, gA3, gA4, gA5, gA6]
            (refine tkA 13 (v := ?_) ?_ ?_; rotate_left; focus (intro w hSw; (try dsimp only at hSw); go_simp; try rfl)); try simp only [Act.put, gA1, gA2, gA3, gA4, gA5, gA6]
            (refine tkA 14 (v := ?_) ?_ ?_; rotate_left; focus (intro w hSw; (try dsimp only at hSw); go_simp; try rfl)); try simp only [Act.put, gA1, gA2, gA3, gA4, gA5, gA6]
            refine wpAnyH_done (by kernel_rfl) ?_ _
            have HJ8 := Lib.hid (HJ7.out.on (hbw1.trans (hbw2.mono hbw1.size)))
            clear hbw1 hbw2 HJ7 HKd
            go_wp2
            go_roundw
            case rel => exact ⟨k + 1, _, _, _, m2, by omega, by go_num, HJ8⟩
            case measure => simp [intOf]; omega
          ·
           refine step_allocRep rfl rfl (fun p wb hbx hbb hpp => ?_)
           first
            | (have HJb := Lib.hid (HJ5.out.on hbb); have HRo := Lib.hid (HO5.out.below hbb); have HBx := Lib.hid hbx; have HPr : Hid (r ≤ p) := Lib.hid (by have q1 := HJ5.out.lt.2.2.2.2.2; have q2 := HJ5.out.rm.rd.lt; omega))
            | (have HJa := Lib.hid (HJ.out.on ((Below.refl _ _).drew.trans (hbb.mono (Nat.le_refl _)))); have HBa := Lib.hid hbx; have HPr : Hid (r ≤ p) := Lib.hid (by have q1 := HJ.out.lt.2.2.2.2.2; have q2 := HJ.out.rm.rd.lt; have q3 : wr.heap.size ≤ p := hpp; omega))
            | fail
           refine hK.out _ _ ?_ (fun hHeld => ?_)
           ·((first
           | exact HKc.out _ (HJ5.out.below)
           | exact HKc.out _ (HJ.out.below)
           | exact HKc.out _ ((HJ.out.on (Below.refl _ _).drew).below)
           | exact HKc.out _ (HJe.out.below)
           | exact HKc.out _ (HJd.out.below)
           | exact HKc.out _ (HJc.out.below)
           | exact HKc.out _ (HJb.out.below)
           | exact HKc.out _ (HJa.out.below)
           | fail))
           clear hK K
           try simp only [Act.put, gA1, gA2, gA3, gA4, gA5, gA6]
           refine wpAnyH_ready (rs := [6]) (by kernel_rfl) (by simp) ?_
           refine (AllReadyH.cons rfl (fun K hK => ?_) AllReadyH.nil)
           go_simp
           (go_at_call 20; first | (refine (HAp.out _ HJa.out).mono ?_; rintro e w5 ⟨v5, he, hro, hm5, ht5⟩; have he := he.out; subst he; simp only at hro hm5; obtain ⟨a5, c5, ev⟩ := hro.slice; rw [HMn.out] at ev; subst ev; have HJ5 := Lib.hid (japp HRq.out HJa.out hm5 ht5 HCl.out HKk.out); have HO5 := Lib.hid (hro.base (b2 := X.heap.size) (by have q := HJa.out.below.size; exact q)); have HBx := Lib.hid (bk_two HBa.out ht5 (by have q1 := HJa.out.lt; have q2 := HPr.out; omega) (by have q1 := HJa.out.lt; have q2 := HPr.out; omega)); clear hro hm5 ht5) | (refine (HAp.out _ (HJ.out.on (Below.refl _ _).drew)).mono ?_; rintro e w5 ⟨v5, he, hro, hm5, ht5⟩; have he := he.out; subst he; simp only at hro hm5; obtain ⟨a5, c5, ev⟩ := hro.slice; rw [HMn.out] at ev; subst ev; have HJ5 := Lib.hid (japp HRq.out (HJ.out.on (Below.refl _ _).drew) hm5 ht5 HCl.out HKk.out); have HO5 := Lib.hid (hro.base (b2 := X.heap.size) (by have q := (HJ.out.on (Below.refl _ _).drew).below.size; exact q)); clear hro hm5 ht5) | fail)
           refine hK.out _ _ ?_ (fun hHeld => ?_)
           ·((first
           | exact HKc.out _ (HJ5.out.below)
           | exact HKc.out _ (HJ.out.below)
           | exact HKc.out _ ((HJ.out.on (Below.refl _ _).drew).below)
           | exact HKc.out _ (HJe.out.below)
           | exact HKc.out _ (HJd.out.below)
           | exact HKc.out _ (HJc.out.below)
           | exact HKc.out _ (HJb.out.below)
           | exact HKc.out _ (HJa.out.below)
           | fail))
           clear hK K
           try simp only [Act.put, gA1, gA2, gA3, gA4, gA5, gA6]
           refine wpAnyH_ready (rs := [8]) (by kernel_rfl) (by simp) ?_
           refine (AllReadyH.cons rfl (fun K hK => ?_) AllReadyH.nil)
           refine step_storeRep rfl _ _ rfl p rfl er vl vr a5 M c5 rfl HBx.out (fun w8 hb8 hf8 => ?_)
           first
            | (have HJc := Lib.hid (HJb.out.box HBx.out HPr.out hf8); have HR8 := Lib.hid (sk_box HRo.out HBx.out hf8))
            | (have HJc := Lib.hid (HJ5.out.box HBx.out HPr.out hf8); have HR8 := Lib.hid (sk_box HO5.out HBx.out hf8))
            | fail
           refine hK.out _ _ ?_ (fun hHeld => ?_)
           ·((first
           | exact HKc.out _ (HJ5.out.below)
           | exact HKc.out _ (HJ.out.below)
           | exact HKc.out _ ((HJ.out.on (Below.refl _ _).drew).below)
           | exact HKc.out _ (HJe.out.below)
           | exact HKc.out _ (HJd.out.below)
           | exact HKc.out _ (HJc.out.below)
           | exact HKc.out _ (HJb.out.below)
           | exact HKc.out _ (HJa.out.below)
           | fail))
           clear hK K
           try simp only [Act.put, gA1, gA2, gA3, gA4, gA5, gA6]
           refine wpAnyH_done (by kernel_rfl) ?_ _
           have HJd := HJc
           have HBd := Lib.hid hb8
           have HOd := HR8
           clear HJ
           go_wp2_with fail
           refine wp_region_held_drew (S := (fun w' => w'.cell? ⟨gc, off + k * 8, none⟩ = some (.int .i64 t.cl) ∧ w'.cell? ⟨gc, off + k * 8 + 1, none⟩ = some (.int .i64 t.sq) ∧ w'.cell? ⟨gc, off + k * 8 + 2, none⟩ = some (.int .i64 t.op) ∧ w'.cell? ⟨gc, off + k * 8 + 3, none⟩ = some (.string t.pa) ∧ w'.cell? ⟨gc, off + k * 8 + 4, none⟩ = some (.string t.va) ∧ w'.cell? ⟨gc, off + k * 8 + 5, none⟩ = some (.int .i64 t.ver) ∧ w'.cell? ⟨gc, off + k * 8 + 6, none⟩ = some (.int .i64 t.a) ∧ w'.cell? ⟨gc, off + k * 8 + 7, none⟩ = some (.int .i64 t.b) ∧ w'.cell? ⟨b7, 0, none⟩ = some (.int .i64 R.err) ∧ w'.cell? ⟨b7, 1, none⟩ = some (.string R.val) ∧ w'.cell? ⟨b7, 2, none⟩ = some (.int .i64 R.ver) ∧ w'.cell? ⟨b7, 3, none⟩ = some (.slice ca cn cc))) (by kernel_rfl) ?_ (fun hHeld => ?_)
           ·((first
            | exact HKc.out _ (HJd.out.below)
            | exact HKc.out _ ((HJd.out.on (Below.refl _ _).drew).below)
            | exact HKc.out _ (HJh.out.below)
            | exact HKc.out _ (HJg.out.below)
            | exact HKc.out _ (HJf.out.below)
            | exact HKc.out _ (HJe.out.below)
            | fail))
           (refine tkA 0 (v := ?_) ?_ ?_; rotate_left; focus (intro w hSw; (try dsimp only at hSw); go_simp; try rfl)); try simp only [Act.put, gA1, gA2, gA3, gA4, gA5, gA6]
           (refine tkA 1 (v := ?_) ?_ ?_; rotate_left; focus (intro w hSw; (try dsimp only at hSw); go_simp; try rfl)); try simp only [Act.put, gA1, gA2, gA3, gA4, gA5, gA6]
           (refine tkA 2 (v := ?_) ?_ ?_; rotate_left; focus (intro w hSw; (try dsimp only at hSw); go_simp; try rfl)); try simp only [Act.put, gA1, gA2, gA3, gA4, gA5, gA6]
           (refine tkA 3 (v := ?_) ?_ ?_; rotate_left; focus (intro w hSw; (try dsimp only at hSw); go_simp; try rfl)); try simp only [Act.put, gA1, gA2, gA3, gA4, gA5, gA6]
           (refine tkA 4 (v := ?_) ?_ ?_; rotate_left; focus (intro w hSw; (try dsimp only at hSw); go_simp; try rfl)); try simp only [Act.put, gA1, gA2, gA3, gA4, gA5, gA6]
           (refine tkA 5 (v := ?_) ?_ ?_; rotate_left; focus (intro w hSw; (try dsimp only at hSw); go_simp; try rfl)); try simp only [Act.put, gA1, gA2, gA3, gA4, gA5, gA6]
           refine wpAnyH_ready (rs := [6, 7]) (by kernel_rfl) (by simp) ?_
           refine (AllReadyH.cons rfl (fun K hK => ?_) (AllReadyH.cons rfl (fun K hK => ?_) AllReadyH.nil))
           ·
            go_simp
            (go_at_call 21; first | (refine (HRA.out _ HJe.out).mono ?_; rintro e w6 ⟨v', u', xs', v6, he, hng, hj6, hf6⟩; have he := he.out; subst he; obtain ⟨a6, c6, ev⟩ := hng.slice; rw [HMn.out] at ev; subst ev; have HJf := Lib.hid hj6; have HGf := Lib.hid hng; have HBf := Lib.hid (bk_rm HBe.out HJe.out.rm hf6); have HOf := Lib.hid (sk_rm HOe.out HJe.out.rm hf6); have HBy := Lib.hid (bk_rm HBz.out HJe.out.rm hf6); clear hng hj6 hf6) | (refine (HRA.out _ (HJd.out.on (Below.refl _ _).drew)).mono ?_; rintro e w6 ⟨v', u', xs', v6, he, hng, hj6, hf6⟩; have he := he.out; subst he; obtain ⟨a6, c6, ev⟩ := hng.slice; rw [HMn.out] at ev; subst ev; have HJf := Lib.hid hj6; have HGf := Lib.hid hng; have HBf := Lib.hid (bk_rm (HBd.out.below (Below.refl _ _).drew) (HJd.out.on (Below.refl _ _).drew).rm hf6); have HOf := Lib.hid (sk_rm (HOd.out.below (Below.refl _ _).drew) (HJd.out.on (Below.refl _ _).drew).rm hf6); have HPq : Hid (∀ q, w6.heap.size ≤ q → p ≠ q) := Lib.hid (fun q hq => by have q1 := HBf.out.lt; omega); clear hng hj6 hf6) | fail)
            refine hK.out _ _ ?_ (fun hHeld => ?_)
            ·((first
            | exact HKc.out _ (HJd.out.below)
            | exact HKc.out _ ((HJd.out.on (Below.refl _ _).drew).below)
            | exact HKc.out _ (HJh.out.below)
            | exact HKc.out _ (HJg.out.below)
            | exact HKc.out _ (HJf.out.below)
            | exact HKc.out _ (HJe.out.below)
            | fail))
            clear hK K
            try simp only [Act.put, gA1, gA2, gA3, gA4, gA5, gA6]
            refine wpAnyH_ready (rs := [7]) (by kernel_rfl) (by simp) ?_
            refine (AllReadyH.cons rfl (fun K hK => ?_) AllReadyH.nil)
            refine step_allocRep rfl rfl (fun p2 wb hbx hbb hpp => ?_)
            first
             | (have HJg := Lib.hid (HJf.out.on hbb); have HBf2 := Lib.hid (HBf.out.below hbb); have HOf2 := Lib.hid (HOf.out.below hbb); have HGf2 := Lib.hid (HGf.out.on hbb); have HBy := Lib.hid hbx; have HPr2 : Hid (r ≤ p2) := Lib.hid (by have q1 := HJf.out.lt.2.2.2.2.2; have q2 := HJf.out.rm.rd.lt; omega))
             | (have HJe := Lib.hid (HJd.out.on ((Below.refl _ _).drew.trans (hbb.mono (Nat.le_refl _)))); have HBe := Lib.hid (HBd.out.below ((Below.refl _ _).drew.trans (hbb.mono (Nat.le_refl _)))); have HOe := Lib.hid (HOd.out.below ((Below.refl _ _).drew.trans (hbb.mono (Nat.le_refl _)))); have HBz := Lib.hid hbx; have HPr2 : Hid (r ≤ p2) := Lib.hid (by have q1 := HJd.out.lt.2.2.2.2.2; have q2 := HJd.out.rm.rd.lt; have q3 : w8.heap.size ≤ p2 := hpp; omega); have HPp : Hid (p ≠ p2) := Lib.hid (by have q1 := HBd.out.lt; have q3 : w8.heap.size ≤ p2 := hpp; omega))
             | fail
            refine hK.out _ _ ?_ (fun hHeld => ?_)
            ·((first
            | exact HKc.out _ (HJd.out.below)
            | exact HKc.out _ ((HJd.out.on (Below.refl _ _).drew).below)
            | exact HKc.out _ (HJh.out.below)
            | exact HKc.out _ (HJg.out.below)
            | exact HKc.out _ (HJf.out.below)
            | exact HKc.out _ (HJe.out.below)
            | fail))
            clear hK K
            try simp only [Act.put, gA1, gA2, gA3, gA4, gA5, gA6]
            refine wpAnyH_ready (rs := [8]) (by kernel_rfl) (by simp) ?_
            refine (AllReadyH.cons rfl (fun K hK => ?_) AllReadyH.nil)
            refine step_storeRep rfl _ _ rfl p2 rfl er vl vr a6 M c6 rfl HBy.out (fun w9 hb9 hf9 => ?_)
            first
             | (have HJh := Lib.hid (HJg.out.box HBy.out HPr2.out hf9); have HB9 := Lib.hid (hf9.bk HBf2.out (by have q := HBf.out.lt; show ¬ p = p2; exact HPq.out p2 hpp)); have HO9 := Lib.hid (sk_box HOf2.out HBy.out hf9); have HG9 := Lib.hid (ng_box HGf2.out HBy.out hf9))
             | (have HJh := Lib.hid (HJf.out.box HBy.out HPr2.out hf9); have HB9 := Lib.hid (hf9.bk HBf.out (by show ¬ p = p2; exact HPp.out)); have HO9 := Lib.hid (sk_box HOf.out HBy.out hf9); have HG9 := Lib.hid (ng_box HGf.out HBy.out hf9))
             | fail
            refine hK.out _ _ ?_ (fun hHeld => ?_)
            ·((first
            | exact HKc.out _ (HJd.out.below)
            | exact HKc.out _ ((HJd.out.on (Below.refl _ _).drew).below)
            | exact HKc.out _ (HJh.out.below)
            | exact HKc.out _ (HJg.out.below)
            | exact HKc.out _ (HJf.out.below)
            | exact HKc.out _ (HJe.out.below)
            | fail))
            clear hK K
            try simp only [Act.put, gA1, gA2, gA3, gA4, gA5, gA6]
            refine wpAnyH_done (by kernel_rfl) ?_ _
            have HJ9 := HJh
            clear HKc
            have q0 := Bk.cell hb9 0
            have q1 := Bk.cell hb9 1
            have q2 := Bk.cell hb9 2
            have q3 := Bk.cell hb9 3
            simp only [List.getElem?_cons_zero, List.getElem?_cons_succ] at q0 q1 q2 q3
            have y0 := Bk.cell HB9.out 0
            have y1 := Bk.cell HB9.out 1
            have y2 := Bk.cell HB9.out 2
            have y3 := Bk.cell HB9.out 3
            simp only [List.getElem?_cons_zero, List.getElem?_cons_succ] at y0 y1 y2 y3
            have HNa : Hid (Nms w9 (.slice a5 M c5) ns) := Lib.hid (sk_nms HO9.out.rd)
            have HNb : Hid (Nms w9 (.slice a6 M c6) ns) := Lib.hid (HG9.out.nms HJ9.out.below)
            have HSm := Lib.hid (same_any ⟨er, vl, vr, ns⟩ (.slice a5 M c5) (.slice a6 M c6) w9 HNa.out HNb.out)
            go_wp2_with fail
            refine HSm.out.mono ?_
            rintro e w7 ⟨rfl, hb⟩
            have HJ7 := Lib.hid (HJ9.out.on hb)
            obtain ⟨vt, hvt⟩ : ∃ q, valS t.cl t.sq = q := ⟨_, rfl⟩
            have HVt := Lib.hid hvt
            have z1 : (vt != vt) = false := by simp
            have z2 : (vt == vt) = true := by simp
            clear hb q0 q1 q2 q3 y0 y1 y2 y3 hb9 hf9 hvt
            go_wp2_with fail
            refine wp_region_held_drew (S := (fun w' => w'.cell? ⟨gc, off + k * 8, none⟩ = some (.int .i64 t.cl) ∧ w'.cell? ⟨gc, off + k * 8 + 1, none⟩ = some (.int .i64 t.sq) ∧ w'.cell? ⟨gc, off + k * 8 + 2, none⟩ = some (.int .i64 t.op) ∧ w'.cell? ⟨gc, off + k * 8 + 3, none⟩ = some (.string t.pa) ∧ w'.cell? ⟨gc, off + k * 8 + 4, none⟩ = some (.string t.va) ∧ w'.cell? ⟨gc, off + k * 8 + 5, none⟩ = some (.int .i64 t.ver) ∧ w'.cell? ⟨gc, off + k * 8 + 6, none⟩ = some (.int .i64 t.a) ∧ w'.cell? ⟨gc, off + k * 8 + 7, none⟩ = some (.int .i64 t.b))) (by kernel_rfl) ?_ (fun hHeld => ?_)
            ·((first
             | exact HKd.out _ HJ7.out.below
             | exact HKd.out _ (HJ7.out.on (Below.refl _ _).drew).below
             | (go_split_ands; exact HKd.out _ (HJ7.out.on hbw1).below)
             | (go_split_ands; exact HKd.out _ (HJ7.out.on (hbw1.trans (hbw2.mono hbw1.size))).below)
             | fail))
            (refine tkA 0 (v := ?_) ?_ ?_; rotate_left; focus (intro w hSw; (try dsimp only at hSw); go_simp; try rfl)); try simp only [Act.put, gA1, gA2, gA3, gA4, gA5, gA6]
            (refine tkA 1 (v := ?_) ?_ ?_; rotate_left; focus (intro w hSw; (try dsimp only at hSw); go_simp; try rfl)); try simp only [Act.put, gA1, gA2, gA3, gA4, gA5, gA6]
            (refine tkA 2 (v := ?_) ?_ ?_; rotate_left; focus (intro w hSw; (try dsimp only at hSw); go_simp; try rfl)); try simp only [Act.put, gA1, gA2, gA3, gA4, gA5, gA6]
            (refine tkA 3 (v := ?_) ?_ ?_; rotate_left; focus (intro w hSw; (try dsimp only at hSw); go_simp; try rfl)); try simp only [Act.put, gA1, gA2, gA3, gA4, gA5, gA6]
            (refine tkA 4 (v := ?_) ?_ ?_; rotate_left; focus (intro w hSw; (try dsimp only at hSw); go_simp; try rfl)); try simp only [Act.put, gA1, gA2, gA3, gA4, gA5, gA6]
            (refine tkA 5 (v := ?_) ?_ ?_; rotate_left; focus (intro w hSw; (try dsimp only at hSw); go_simp; try rfl)); try simp only [Act.put, gA1, gA2, gA3, gA4, gA5, gA6]
            (refine tkA 6 (v := ?_) ?_ ?_; rotate_left; focus (intro w hSw; (try dsimp only at hSw); go_simp; try rfl)); try simp only [Act.put, gA1, gA2, gA3, gA4, gA5, gA6]
            (refine tkA 8 (v := ?_) ?_ ?_; rotate_left; focus (intro w hSw; (try dsimp only at hSw); go_simp; try rfl)); try simp only [Act.put, gA1, gA2, gA3, gA4, gA5, gA6]
            (refine tkA 9 (v := ?_) ?_ ?_; rotate_left; focus (intro w hSw; (try dsimp only at hSw); go_simp; try rfl)); try simp only [Act.put, gA1, gA2, gA3, gA4, gA5, gA6]
            (refine tkA 10 (v := ?_) ?_ ?_; rotate_left; focus (intro w hSw; (try dsimp only at hSw); go_simp; try rfl)); try simp only [Act.put, gA1, gA2, gA3, gA4, gA5, gA6]
            (refine tkA 11 (v := ?_) ?_ ?_; rotate_left; focus (intro w hSw; (try dsimp only at hSw); go_simp; try rfl)); try simp only [Act.put, gA1, gA2, gA3, gA4, gA5, gA6]
            refine wpAnyH_ready (rs := [7]) (by kernel_rfl) (by simp) ?_
            refine (AllReadyH.cons rfl (fun K hK => ?_) AllReadyH.nil)
            go_simp
            (first | (go_at_call 22; refine (valid9_any t.cl t.sq t.op t.pa t.va t.ver t.a t.b _).mono ?_; rintro e w10 ⟨rfl, hb⟩; have hbw1 : Below w7.heap.size w7 w10 := below_self (Below.refl _ _).drew hb; clear hb; rw [HVt.out]) | (go_at_call 23; refine (rvalid9_any t.cl t.sq t.op t.pa t.va t.ver t.a t.b _).mono ?_; rintro e w11 ⟨rfl, hb⟩; have hbw2 : Below w10.heap.size w10 w11 := hb; clear hb; rw [HVt.out]) | fail)
            refine hK.out _ _ ?_ (fun hHeld => ?_)
            ·((first
             | exact HKd.out _ HJ7.out.below
             | exact HKd.out _ (HJ7.out.on (Below.refl _ _).drew).below
             | (go_split_ands; exact HKd.out _ (HJ7.out.on hbw1).below)
             | (go_split_ands; exact HKd.out _ (HJ7.out.on (hbw1.trans (hbw2.mono hbw1.size))).below)
             | fail))
            clear hK K
            try simp only [Act.put, gA1, gA2, gA3, gA4, gA5, gA6]
            refine wpAnyH_ready (rs := [12]) (by kernel_rfl) (by simp) ?_
            refine (AllReadyH.cons rfl (fun K hK => ?_) AllReadyH.nil)
            go_simp
            (first | (go_at_call 22; refine (valid9_any t.cl t.sq t.op t.pa t.va t.ver t.a t.b _).mono ?_; rintro e w10 ⟨rfl, hb⟩; have hbw1 : Below w7.heap.size w7 w10 := below_self (Below.refl _ _).drew hb; clear hb; rw [HVt.out]) | (go_at_call 23; refine (rvalid9_any t.cl t.sq t.op t.pa t.va t.ver t.a t.b _).mono ?_; rintro e w11 ⟨rfl, hb⟩; have hbw2 : Below w10.heap.size w10 w11 := hb; clear hb; rw [HVt.out]) | fail)
            refine hK.out _ _ ?_ (fun hHeld => ?_)
            ·((first
             | exact HKd.out _ HJ7.out.below
             | exact HKd.out _ (HJ7.out.on (Below.refl _ _).drew).below
             | (go_split_ands; exact HKd.out _ (HJ7.out.on hbw1).below)
             | (go_split_ands; exact HKd.out _ (HJ7.out.on (hbw1.trans (hbw2.mono hbw1.size))).below)
             | fail))
            clear hK K
            try simp only [Act.put, gA1, gA2, gA3, gA4, gA5, gA6]
            (refine tkA 13 (v := ?_) ?_ ?_; rotate_left; focus (intro w hSw; (try dsimp only at hSw); go_simp; try rfl)); try simp only [Act.put, gA1, gA2, gA3, gA4, gA5, gA6]
            (refine tkA 14 (v := ?_) ?_ ?_; rotate_left; focus (intro w hSw; (try dsimp only at hSw); go_simp; try rfl)); try simp only [Act.put, gA1, gA2, gA3, gA4, gA5, gA6]
            refine wpAnyH_done (by kernel_rfl) ?_ _
            have HJ8 := Lib.hid (HJ7.out.on (hbw1.trans (hbw2.mono hbw1.size)))
            clear hbw1 hbw2 HJ7 HKd
            go_wp2
            go_roundw
            case rel => exact ⟨k + 1, _, _, _, m2, by omega, by go_num, HJ8⟩
            case measure => simp [intOf]; omega
           ·
            refine step_allocRep rfl rfl (fun p2 wb hbx hbb hpp => ?_)
            first
             | (have HJg := Lib.hid (HJf.out.on hbb); have HBf2 := Lib.hid (HBf.out.below hbb); have HOf2 := Lib.hid (HOf.out.below hbb); have HGf2 := Lib.hid (HGf.out.on hbb); have HBy := Lib.hid hbx; have HPr2 : Hid (r ≤ p2) := Lib.hid (by have q1 := HJf.out.lt.2.2.2.2.2; have q2 := HJf.out.rm.rd.lt; omega))
             | (have HJe := Lib.hid (HJd.out.on ((Below.refl _ _).drew.trans (hbb.mono (Nat.le_refl _)))); have HBe := Lib.hid (HBd.out.below ((Below.refl _ _).drew.trans (hbb.mono (Nat.le_refl _)))); have HOe := Lib.hid (HOd.out.below ((Below.refl _ _).drew.trans (hbb.mono (Nat.le_refl _)))); have HBz := Lib.hid hbx; have HPr2 : Hid (r ≤ p2) := Lib.hid (by have q1 := HJd.out.lt.2.2.2.2.2; have q2 := HJd.out.rm.rd.lt; have q3 : w8.heap.size ≤ p2 := hpp; omega); have HPp : Hid (p ≠ p2) := Lib.hid (by have q1 := HBd.out.lt; have q3 : w8.heap.size ≤ p2 := hpp; omega))
             | fail
            refine hK.out _ _ ?_ (fun hHeld => ?_)
            ·((first
            | exact HKc.out _ (HJd.out.below)
            | exact HKc.out _ ((HJd.out.on (Below.refl _ _).drew).below)
            | exact HKc.out _ (HJh.out.below)
            | exact HKc.out _ (HJg.out.below)
            | exact HKc.out _ (HJf.out.below)
            | exact HKc.out _ (HJe.out.below)
            | fail))
            clear hK K
            try simp only [Act.put, gA1, gA2, gA3, gA4, gA5, gA6]
            refine wpAnyH_ready (rs := [6]) (by kernel_rfl) (by simp) ?_
            refine (AllReadyH.cons rfl (fun K hK => ?_) AllReadyH.nil)
            go_simp
            (go_at_call 21; first | (refine (HRA.out _ HJe.out).mono ?_; rintro e w6 ⟨v', u', xs', v6, he, hng, hj6, hf6⟩; have he := he.out; subst he; obtain ⟨a6, c6, ev⟩ := hng.slice; rw [HMn.out] at ev; subst ev; have HJf := Lib.hid hj6; have HGf := Lib.hid hng; have HBf := Lib.hid (bk_rm HBe.out HJe.out.rm hf6); have HOf := Lib.hid (sk_rm HOe.out HJe.out.rm hf6); have HBy := Lib.hid (bk_rm HBz.out HJe.out.rm hf6); clear hng hj6 hf6) | (refine (HRA.out _ (HJd.out.on (Below.refl _ _).drew)).mono ?_; rintro e w6 ⟨v', u', xs', v6, he, hng, hj6, hf6⟩; have he := he.out; subst he; obtain ⟨a6, c6, ev⟩ := hng.slice; rw [HMn.out] at ev; subst ev; have HJf := Lib.hid hj6; have HGf := Lib.hid hng; have HBf := Lib.hid (bk_rm (HBd.out.below (Below.refl _ _).drew) (HJd.out.on (Below.refl _ _).drew).rm hf6); have HOf := Lib.hid (sk_rm (HOd.out.below (Below.refl _ _).drew) (HJd.out.on (Below.refl _ _).drew).rm hf6); have HPq : Hid (∀ q, w6.heap.size ≤ q → p ≠ q) := Lib.hid (fun q hq => by have q1 := HBf.out.lt; omega); clear hng hj6 hf6) | fail)
            refine hK.out _ _ ?_ (fun hHeld => ?_)
            ·((first
            | exact HKc.out _ (HJd.out.below)
            | exact HKc.out _ ((HJd.out.on (Below.refl _ _).drew).below)
            | exact HKc.out _ (HJh.out.below)
            | exact HKc.out _ (HJg.out.below)
            | exact HKc.out _ (HJf.out.below)
            | exact HKc.out _ (HJe.out.below)
            | fail))
            clear hK K
            try simp only [Act.put, gA1, gA2, gA3, gA4, gA5, gA6]
            refine wpAnyH_ready (rs := [8]) (by kernel_rfl) (by simp) ?_
            refine (AllReadyH.cons rfl (fun K hK => ?_) AllReadyH.nil)
            refine step_storeRep rfl _ _ rfl p2 rfl er vl vr a6 M c6 rfl HBy.out (fun w9 hb9 hf9 => ?_)
            first
             | (have HJh := Lib.hid (HJg.out.box HBy.out HPr2.out hf9); have HB9 := Lib.hid (hf9.bk HBf2.out (by have q := HBf.out.lt; show ¬ p = p2; exact HPq.out p2 hpp)); have HO9 := Lib.hid (sk_box HOf2.out HBy.out hf9); have HG9 := Lib.hid (ng_box HGf2.out HBy.out hf9))
             | (have HJh := Lib.hid (HJf.out.box HBy.out HPr2.out hf9); have HB9 := Lib.hid (hf9.bk HBf.out (by show ¬ p = p2; exact HPp.out)); have HO9 := Lib.hid (sk_box HOf.out HBy.out hf9); have HG9 := Lib.hid (ng_box HGf.out HBy.out hf9))
             | fail
            refine hK.out _ _ ?_ (fun hHeld => ?_)
            ·((first
            | exact HKc.out _ (HJd.out.below)
            | exact HKc.out _ ((HJd.out.on (Below.refl _ _).drew).below)
            | exact HKc.out _ (HJh.out.below)
            | exact HKc.out _ (HJg.out.below)
            | exact HKc.out _ (HJf.out.below)
            | exact HKc.out _ (HJe.out.below)
            | fail))
            clear hK K
            try simp only [Act.put, gA1, gA2, gA3, gA4, gA5, gA6]
            refine wpAnyH_done (by kernel_rfl) ?_ _
            have HJ9 := HJh
            clear HKc
            have q0 := Bk.cell hb9 0
            have q1 := Bk.cell hb9 1
            have q2 := Bk.cell hb9 2
            have q3 := Bk.cell hb9 3
            simp only [List.getElem?_cons_zero, List.getElem?_cons_succ] at q0 q1 q2 q3
            have y0 := Bk.cell HB9.out 0
            have y1 := Bk.cell HB9.out 1
            have y2 := Bk.cell HB9.out 2
            have y3 := Bk.cell HB9.out 3
            simp only [List.getElem?_cons_zero, List.getElem?_cons_succ] at y0 y1 y2 y3
            have HNa : Hid (Nms w9 (.slice a5 M c5) ns) := Lib.hid (sk_nms HO9.out.rd)
            have HNb : Hid (Nms w9 (.slice a6 M c6) ns) := Lib.hid (HG9.out.nms HJ9.out.below)
            have HSm := Lib.hid (same_any ⟨er, vl, vr, ns⟩ (.slice a5 M c5) (.slice a6 M c6) w9 HNa.out HNb.out)
            go_wp2_with fail
            refine HSm.out.mono ?_
            rintro e w7 ⟨rfl, hb⟩
            have HJ7 := Lib.hid (HJ9.out.on hb)
            obtain ⟨vt, hvt⟩ : ∃ q, valS t.cl t.sq = q := ⟨_, rfl⟩
            have HVt := Lib.hid hvt
            have z1 : (vt != vt) = false := by simp
            have z2 : (vt == vt) = true := by simp
            clear hb q0 q1 q2 q3 y0 y1 y2 y3 hb9 hf9 hvt
            go_wp2_with fail
            refine wp_region_held_drew (S := (fun w' => w'.cell? ⟨gc, off + k * 8, none⟩ = some (.int .i64 t.cl) ∧ w'.cell? ⟨gc, off + k * 8 + 1, none⟩ = some (.int .i64 t.sq) ∧ w'.cell? ⟨gc, off + k * 8 + 2, none⟩ = some (.int .i64 t.op) ∧ w'.cell? ⟨gc, off + k * 8 + 3, none⟩ = some (.string t.pa) ∧ w'.cell? ⟨gc, off + k * 8 + 4, none⟩ = some (.string t.va) ∧ w'.cell? ⟨gc, off + k * 8 + 5, none⟩ = some (.int .i64 t.ver) ∧ w'.cell? ⟨gc, off + k * 8 + 6, none⟩ = some (.int .i64 t.a) ∧ w'.cell? ⟨gc, off + k * 8 + 7, none⟩ = some (.int .i64 t.b))) (by kernel_rfl) ?_ (fun hHeld => ?_)
            ·((first
             | exact HKd.out _ HJ7.out.below
             | exact HKd.out _ (HJ7.out.on (Below.refl _ _).drew).below
             | (go_split_ands; exact HKd.out _ (HJ7.out.on hbw1).below)
             | (go_split_ands; exact HKd.out _ (HJ7.out.on (hbw1.trans (hbw2.mono hbw1.size))).below)
             | fail))
            (refine tkA 0 (v := ?_) ?_ ?_; rotate_left; focus (intro w hSw; (try dsimp only at hSw); go_simp; try rfl)); try simp only [Act.put, gA1, gA2, gA3, gA4, gA5, gA6]
            (refine tkA 1 (v := ?_) ?_ ?_; rotate_left; focus (intro w hSw; (try dsimp only at hSw); go_simp; try rfl)); try simp only [Act.put, gA1, gA2, gA3, gA4, gA5, gA6]
            (refine tkA 2 (v := ?_) ?_ ?_; rotate_left; focus (intro w hSw; (try dsimp only at hSw); go_simp; try rfl)); try simp only [Act.put, gA1, gA2, gA3, gA4, gA5, gA6]
            (refine tkA 3 (v := ?_) ?_ ?_; rotate_left; focus (intro w hSw; (try dsimp only at hSw); go_simp; try rfl)); try simp only [Act.put, gA1, gA2, gA3, gA4, gA5, gA6]
            (refine tkA 4 (v := ?_) ?_ ?_; rotate_left; focus (intro w hSw; (try dsimp only at hSw); go_simp; try rfl)); try simp only [Act.put, gA1, gA2, gA3, gA4, gA5, gA6]
            (refine tkA 5 (v := ?_) ?_ ?_; rotate_left; focus (intro w hSw; (try dsimp only at hSw); go_simp; try rfl)); try simp only [Act.put, gA1, gA2, gA3, gA4, gA5, gA6]
            (refine tkA 6 (v := ?_) ?_ ?_; rotate_left; focus (intro w hSw; (try dsimp only at hSw); go_simp; try rfl)); try simp only [Act.put, gA1, gA2, gA3, gA4, gA5, gA6]
            (refine tkA 8 (v := ?_) ?_ ?_; rotate_left; focus (intro w hSw; (try dsimp only at hSw); go_simp; try rfl)); try simp only [Act.put, gA1, gA2, gA3, gA4, gA5, gA6]
            (refine tkA 9 (v := ?_) ?_ ?_; rotate_left; focus (intro w hSw; (try dsimp only at hSw); go_simp; try rfl)); try simp only [Act.put, gA1, gA2, gA3, gA4, gA5, gA6]
            (refine tkA 10 (v := ?_) ?_ ?_; rotate_left; focus (intro w hSw; (try dsimp only at hSw); go_simp; try rfl)); try simp only [Act.put, gA1, gA2, gA3, gA4, gA5, gA6]
            (refine tkA 11 (v := ?_) ?_ ?_; rotate_left; focus (intro w hSw; (try dsimp only at hSw); go_simp; try rfl)); try simp only [Act.put, gA1, gA2, gA3, gA4, gA5, gA6]
            refine wpAnyH_ready (rs := [7]) (by kernel_rfl) (by simp) ?_
            refine (AllReadyH.cons rfl (fun K hK => ?_) AllReadyH.nil)
            go_simp
            (first | (go_at_call 22; refine (valid9_any t.cl t.sq t.op t.pa t.va t.ver t.a t.b _).mono ?_; rintro e w10 ⟨rfl, hb⟩; have hbw1 : Below w7.heap.size w7 w10 := below_self (Below.refl _ _).drew hb; clear hb; rw [HVt.out]) | (go_at_call 23; refine (rvalid9_any t.cl t.sq t.op t.pa t.va t.ver t.a t.b _).mono ?_; rintro e w11 ⟨rfl, hb⟩; have hbw2 : Below w10.heap.size w10 w11 := hb; clear hb; rw [HVt.out]) | fail)
            refine hK.out _ _ ?_ (fun hHeld => ?_)
            ·((first
             | exact HKd.out _ HJ7.out.below
             | exact HKd.out _ (HJ7.out.on (Below.refl _ _).drew).below
             | (go_split_ands; exact HKd.out _ (HJ7.out.on hbw1).below)
             | (go_split_ands; exact HKd.out _ (HJ7.out.on (hbw1.trans (hbw2.mono hbw1.size))).below)
             | fail))
            clear hK K
            try simp only [Act.put, gA1, gA2, gA3, gA4, gA5, gA6]
            refine wpAnyH_ready (rs := [12]) (by kernel_rfl) (by simp) ?_
            refine (AllReadyH.cons rfl (fun K hK => ?_) AllReadyH.nil)
            go_simp
            (first | (go_at_call 22; refine (valid9_any t.cl t.sq t.op t.pa t.va t.ver t.a t.b _).mono ?_; rintro e w10 ⟨rfl, hb⟩; have hbw1 : Below w7.heap.size w7 w10 := below_self (Below.refl _ _).drew hb; clear hb; rw [HVt.out]) | (go_at_call 23; refine (rvalid9_any t.cl t.sq t.op t.pa t.va t.ver t.a t.b _).mono ?_; rintro e w11 ⟨rfl, hb⟩; have hbw2 : Below w10.heap.size w10 w11 := hb; clear hb; rw [HVt.out]) | fail)
            refine hK.out _ _ ?_ (fun hHeld => ?_)
            ·((first
             | exact HKd.out _ HJ7.out.below
             | exact HKd.out _ (HJ7.out.on (Below.refl _ _).drew).below
             | (go_split_ands; exact HKd.out _ (HJ7.out.on hbw1).below)
             | (go_split_ands; exact HKd.out _ (HJ7.out.on (hbw1.trans (hbw2.mono hbw1.size))).below)
             | fail))
            clear hK K
            try simp only [Act.put, gA1, gA2, gA3, gA4, gA5, gA6]
            (refine tkA 13 (v := ?_) ?_ ?_; rotate_left; focus (intro w hSw; (try dsimp only at hSw); go_simp; try rfl)); try simp only [Act.put, gA1, gA2, gA3, gA4, gA5, gA6]
            (refine tkA 14 (v := ?_) ?_ ?_; rotate_left; focus (intro w hSw; (try dsimp only at hSw); go_simp; try rfl)); try simp only [Act.put, gA1, gA2, gA3, gA4, gA5, gA6]
            refine wpAnyH_done (by kernel_rfl) ?_ _
            have HJ8 := Lib.hid (HJ7.out.on (hbw1.trans (hbw2.mono hbw1.size)))
            clear hbw1 hbw2 HJ7 HKd
            go_wp2
            go_roundw
            case rel => exact ⟨k + 1, _, _, _, m2, by omega, by go_num, HJ8⟩
            case measure => simp [intOf]; omega
         ·obtain rfl : n = k := by omega
          have hlt' : ¬ (n : Int) < (n : Int) := by omega
          obtain ⟨aR, cR, hvR⟩ := HJ.out.rm.rd.own.slice
          obtain ⟨NR, hNR⟩ : ∃ N, m.l.length = N := ⟨_, rfl⟩
          rw [hNR] at hvR
          subst hvR
          obtain ⟨aS, cS, hvS⟩ := HJ.out.rm.own.slice
          obtain ⟨NS, hNS⟩ : ∃ N, xs.length = N := ⟨_, rfl⟩
          rw [hNS] at hvS
          subst hvS
          have HLl : Hid (m.l.length ≤ 10000 ∧ m.s.length ≤ 10000) := Lib.hid (by have := HJ.out.ls; omega)
          have HPa : Hid (∀ wq, Below wr.heap.size wr wq → Calls Tryz.prog 24 #[dP g] wq (EntP m.l wq)) := Lib.hid fun wq hq => paths_any (HJ.out.on hq).mac (by omega)
          have HSe : Hid (∀ wq, Below wr.heap.size wr wq → Calls Tryz.prog 26 #[dP g] wq (SesP m.s wq)) := Lib.hid fun wq hq => sessions_any (HJ.out.on hq).mac HJ.out.sm (by omega)
          have HRw : Hid (∀ wq (v : Value), Below wr.heap.size wr wq → EK.Rd wq v m.l → Calls Tryz.prog 14 #[v, .slice aR NR cR] wq fun e w' => e = .returned (.bool true) ∧ Below wq.heap.size wq w') := Lib.hid fun wq v hq hv => by
           have := rowD_any v (.slice aR NR cR) m.l m.l wq hv (HJ.out.on hq).rm.rd.own.rd HLl.out.1 HLl.out.1
           rwa [decide_eq_true (rfl : m.l = m.l)] at this
          have HRs : Hid (∀ wq (v : Value) (ys : List SV), Below wr.heap.size wr wq → SE.Rd wq v ys → Match wq ys m.s → Calls Tryz.prog 25 #[v, .slice aS NS cS] wq fun e w' => e = .returned (.bool true) ∧ Below wq.heap.size wq w') := Lib.hid fun wq v ys hq hv hy => rrow9g_any v (.slice aS NS cS) ys xs m.s X wq (HJ.out.on hq).below hv (HJ.out.on hq).rm.own.rd hy (HJ.out.on hq).rm.mt (by have := HLl.out.2; omega)
          have HKP : Hid (∀ w' : World, Below wr.heap.size wr w' → (w'.cell? ⟨r, 0, none⟩ = some (.slice aR NR cR) ∧ w'.cell? ⟨r, 1, none⟩ = some (.slice aS NS cS) ∧ Below wr.heap.size wr w')) := Lib.hid fun w' hq => ⟨(HJ.out.on hq).rm.rd.bk.cell 0, (HJ.out.on hq).rm.rd.bk.cell 1, hq⟩
          have HBr2 := Lib.hid HJ.out.below
          clear hlt hNR hNS HJ
          go_wp2_with fail
          refine wp_region_held_drew (S := (fun w' => w'.cell? ⟨r, 0, none⟩ = some (.slice aR NR cR) ∧ w'.cell? ⟨r, 1, none⟩ = some (.slice aS NS cS) ∧ Below wr.heap.size wr w')) (by kernel_rfl) ?_ (fun hHeld => ?_)
          ·((first
           | exact HKP.out _ (Below.refl _ _)
           | exact HKP.out _ (Below.refl _ _).drew
           | (go_split_ands; exact HKP.out _ (below_self (by assumption) (by assumption)))
           | (go_split_ands; exact HKP.out _ (by assumption))
           | fail))
          (refine tkA 0 (v := ?_) ?_ ?_; rotate_left; focus (intro w hSw; (try dsimp only at hSw); go_simp; try rfl)); try simp only [Act.put, gA1, gA2, gA3, gA4, gA5, gA6]
          (refine tkA 1 (v := ?_) ?_ ?_; rotate_left; focus (intro w hSw; (try dsimp only at hSw); go_simp; try rfl)); try simp only [Act.put, gA1, gA2, gA3, gA4, gA5, gA6]
          (refine tkA 2 (v := ?_) ?_ ?_; rotate_left; focus (intro w hSw; (try dsimp only at hSw); go_simp; try rfl)); try simp only [Act.put, gA1, gA2, gA3, gA4, gA5, gA6]
          (refine tkA 4 (v := ?_) ?_ ?_; rotate_left; focus (intro w hSw; (try dsimp only at hSw); go_simp; try rfl)); try simp only [Act.put, gA1, gA2, gA3, gA4, gA5, gA6]
          (refine tkA 5 (v := ?_) ?_ ?_; rotate_left; focus (intro w hSw; (try dsimp only at hSw); go_simp; try rfl)); try simp only [Act.put, gA1, gA2, gA3, gA4, gA5, gA6]
          (refine tkA 6 (v := ?_) ?_ ?_; rotate_left; focus (intro w hSw; (try dsimp only at hSw); go_simp; try rfl)); try simp only [Act.put, gA1, gA2, gA3, gA4, gA5, gA6]
          (refine tkA 7 (v := ?_) ?_ ?_; rotate_left; focus (intro w hSw; (try dsimp only at hSw); go_simp; try rfl)); try simp only [Act.put, gA1, gA2, gA3, gA4, gA5, gA6]
          (refine tkA 8 (v := ?_) ?_ ?_; rotate_left; focus (intro w hSw; (try dsimp only at hSw); go_simp; try rfl)); try simp only [Act.put, gA1, gA2, gA3, gA4, gA5, gA6]
          refine wpAnyH_ready (rs := [3]) (by kernel_rfl) (by simp) ?_
          refine (AllReadyH.cons rfl (fun K hK => ?_) AllReadyH.nil)
          go_simp
          (first | (go_at_call 24; go_split_ands; refine (HPa.out _ (by assumption)).mono ?_; rintro e w8 ⟨v8, he8, ho8, hbw8⟩; rw [he8.out]; have HR8 := Lib.hid ho8.rd; have HB8 := Lib.hid (below_self (by assumption : Below wr.heap.size wr _) hbw8); clear he8 ho8) | (go_at_call 14; go_split_ands; refine (HRw.out _ _ (by assumption) HR8.out).mono ?_; rintro e w9 ⟨rfl, hbw9⟩; have HB9 := Lib.hid (below_self (by assumption : Below wr.heap.size wr _) hbw9)) | (go_at_call 26; go_split_ands; refine (HSe.out _ (by assumption)).mono ?_; rintro e w10 ⟨v10, xs10, he10, ho10, hm10, hbw10⟩; rw [he10.out]; have HO10 := Lib.hid ho10.rd; have HM10 := Lib.hid hm10; have HB10 := Lib.hid (below_self (by assumption : Below wr.heap.size wr _) hbw10); clear he10 ho10 hm10) | (go_at_call 25; go_split_ands; refine (HRs.out _ _ _ (by assumption) HO10.out HM10.out).mono ?_; rintro e w11 ⟨rfl, hbw11⟩; have HB11 := Lib.hid (below_self (by assumption : Below wr.heap.size wr _) hbw11)) | fail)
          refine hK.out _ _ ?_ (fun hHeld => ?_)
          ·((first
           | exact HKP.out _ (Below.refl _ _)
           | exact HKP.out _ (Below.refl _ _).drew
           | (go_split_ands; exact HKP.out _ (below_self (by assumption) (by assumption)))
           | (go_split_ands; exact HKP.out _ (by assumption))
           | fail))
          clear hK K
          try simp only [Act.put, gA1, gA2, gA3, gA4, gA5, gA6]
          refine wpAnyH_ready (rs := [9]) (by kernel_rfl) (by simp) ?_
          refine (AllReadyH.cons rfl (fun K hK => ?_) AllReadyH.nil)
          go_simp
          (first | (go_at_call 24; go_split_ands; refine (HPa.out _ (by assumption)).mono ?_; rintro e w8 ⟨v8, he8, ho8, hbw8⟩; rw [he8.out]; have HR8 := Lib.hid ho8.rd; have HB8 := Lib.hid (below_self (by assumption : Below wr.heap.size wr _) hbw8); clear he8 ho8) | (go_at_call 14; go_split_ands; refine (HRw.out _ _ (by assumption) HR8.out).mono ?_; rintro e w9 ⟨rfl, hbw9⟩; have HB9 := Lib.hid (below_self (by assumption : Below wr.heap.size wr _) hbw9)) | (go_at_call 26; go_split_ands; refine (HSe.out _ (by assumption)).mono ?_; rintro e w10 ⟨v10, xs10, he10, ho10, hm10, hbw10⟩; rw [he10.out]; have HO10 := Lib.hid ho10.rd; have HM10 := Lib.hid hm10; have HB10 := Lib.hid (below_self (by assumption : Below wr.heap.size wr _) hbw10); clear he10 ho10 hm10) | (go_at_call 25; go_split_ands; refine (HRs.out _ _ _ (by assumption) HO10.out HM10.out).mono ?_; rintro e w11 ⟨rfl, hbw11⟩; have HB11 := Lib.hid (below_self (by assumption : Below wr.heap.size wr _) hbw11)) | fail)
          refine hK.out _ _ ?_ (fun hHeld => ?_)
          ·((first
           | exact HKP.out _ (Below.refl _ _)
           | exact HKP.out _ (Below.refl _ _).drew
           | (go_split_ands; exact HKP.out _ (below_self (by assumption) (by assumption)))
           | (go_split_ands; exact HKP.out _ (by assumption))
           | fail))
          clear hK K
          try simp only [Act.put, gA1, gA2, gA3, gA4, gA5, gA6]
          (refine tkA 10 (v := ?_) ?_ ?_; rotate_left; focus (intro w hSw; (try dsimp only at hSw); go_simp; try rfl)); try simp only [Act.put, gA1, gA2, gA3, gA4, gA5, gA6]
          (refine tkA 11 (v := ?_) ?_ ?_; rotate_left; focus (intro w hSw; (try dsimp only at hSw); go_simp; try rfl)); try simp only [Act.put, gA1, gA2, gA3, gA4, gA5, gA6]
          (refine tkA 12 (v := ?_) ?_ ?_; rotate_left; focus (intro w hSw; (try dsimp only at hSw); go_simp; try rfl)); try simp only [Act.put, gA1, gA2, gA3, gA4, gA5, gA6]
          (refine tkA 14 (v := ?_) ?_ ?_; rotate_left; focus (intro w hSw; (try dsimp only at hSw); go_simp; try rfl)); try simp only [Act.put, gA1, gA2, gA3, gA4, gA5, gA6]
          (refine tkA 15 (v := ?_) ?_ ?_; rotate_left; focus (intro w hSw; (try dsimp only at hSw); go_simp; try rfl)); try simp only [Act.put, gA1, gA2, gA3, gA4, gA5, gA6]
          (refine tkA 16 (v := ?_) ?_ ?_; rotate_left; focus (intro w hSw; (try dsimp only at hSw); go_simp; try rfl)); try simp only [Act.put, gA1, gA2, gA3, gA4, gA5, gA6]
          (refine tkA 17 (v := ?_) ?_ ?_; rotate_left; focus (intro w hSw; (try dsimp only at hSw); go_simp; try rfl)); try simp only [Act.put, gA1, gA2, gA3, gA4, gA5, gA6]
          refine wpAnyH_ready (rs := [13]) (by kernel_rfl) (by simp) ?_
          refine (AllReadyH.cons rfl (fun K hK => ?_) AllReadyH.nil)
          go_simp
          (first | (go_at_call 24; go_split_ands; refine (HPa.out _ (by assumption)).mono ?_; rintro e w8 ⟨v8, he8, ho8, hbw8⟩; rw [he8.out]; have HR8 := Lib.hid ho8.rd; have HB8 := Lib.hid (below_self (by assumption : Below wr.heap.size wr _) hbw8); clear he8 ho8) | (go_at_call 14; go_split_ands; refine (HRw.out _ _ (by assumption) HR8.out).mono ?_; rintro e w9 ⟨rfl, hbw9⟩; have HB9 := Lib.hid (below_self (by assumption : Below wr.heap.size wr _) hbw9)) | (go_at_call 26; go_split_ands; refine (HSe.out _ (by assumption)).mono ?_; rintro e w10 ⟨v10, xs10, he10, ho10, hm10, hbw10⟩; rw [he10.out]; have HO10 := Lib.hid ho10.rd; have HM10 := Lib.hid hm10; have HB10 := Lib.hid (below_self (by assumption : Below wr.heap.size wr _) hbw10); clear he10 ho10 hm10) | (go_at_call 25; go_split_ands; refine (HRs.out _ _ _ (by assumption) HO10.out HM10.out).mono ?_; rintro e w11 ⟨rfl, hbw11⟩; have HB11 := Lib.hid (below_self (by assumption : Below wr.heap.size wr _) hbw11)) | fail)
          refine hK.out _ _ ?_ (fun hHeld => ?_)
          ·((first
           | exact HKP.out _ (Below.refl _ _)
           | exact HKP.out _ (Below.refl _ _).drew
           | (go_split_ands; exact HKP.out _ (below_self (by assumption) (by assumption)))
           | (go_split_ands; exact HKP.out _ (by assumption))
           | fail))
          clear hK K
          try simp only [Act.put, gA1, gA2, gA3, gA4, gA5, gA6]
          refine wpAnyH_ready (rs := [18]) (by kernel_rfl) (by simp) ?_
          refine (AllReadyH.cons rfl (fun K hK => ?_) AllReadyH.nil)
          go_simp
          (first | (go_at_call 24; go_split_ands; refine (HPa.out _ (by assumption)).mono ?_; rintro e w8 ⟨v8, he8, ho8, hbw8⟩; rw [he8.out]; have HR8 := Lib.hid ho8.rd; have HB8 := Lib.hid (below_self (by assumption : Below wr.heap.size wr _) hbw8); clear he8 ho8) | (go_at_call 14; go_split_ands; refine (HRw.out _ _ (by assumption) HR8.out).mono ?_; rintro e w9 ⟨rfl, hbw9⟩; have HB9 := Lib.hid (below_self (by assumption : Below wr.heap.size wr _) hbw9)) | (go_at_call 26; go_split_ands; refine (HSe.out _ (by assumption)).mono ?_; rintro e w10 ⟨v10, xs10, he10, ho10, hm10, hbw10⟩; rw [he10.out]; have HO10 := Lib.hid ho10.rd; have HM10 := Lib.hid hm10; have HB10 := Lib.hid (below_self (by assumption : Below wr.heap.size wr _) hbw10); clear he10 ho10 hm10) | (go_at_call 25; go_split_ands; refine (HRs.out _ _ _ (by assumption) HO10.out HM10.out).mono ?_; rintro e w11 ⟨rfl, hbw11⟩; have HB11 := Lib.hid (below_self (by assumption : Below wr.heap.size wr _) hbw11)) | fail)
          refine hK.out _ _ ?_ (fun hHeld => ?_)
          ·((first
           | exact HKP.out _ (Below.refl _ _)
           | exact HKP.out _ (Below.refl _ _).drew
           | (go_split_ands; exact HKP.out _ (below_self (by assumption) (by assumption)))
           | (go_split_ands; exact HKP.out _ (by assumption))
           | fail))
          clear hK K
          try simp only [Act.put, gA1, gA2, gA3, gA4, gA5, gA6]
          (refine tkA 19 (v := ?_) ?_ ?_; rotate_left; focus (intro w hSw; (try dsimp only at hSw); go_simp; try rfl)); try simp only [Act.put, gA1, gA2, gA3, gA4, gA5, gA6]
          (refine tkA 20 (v := ?_) ?_ ?_; rotate_left; focus (intro w hSw; (try dsimp only at hSw); go_simp; try rfl)); try simp only [Act.put, gA1, gA2, gA3, gA4, gA5, gA6]
          refine wpAnyH_done (by kernel_rfl) ?_ _
          have HBf := Lib.hid (HBr2.out.trans (HB11.out.mono HBr2.out.size))
          go_wp2
          go_ret
          exact ⟨rfl, HB.out.trans (HBf.out.mono HB.out.size)⟩
       ·have HNo := Lib.hid hno
        have HB2 := Lib.hid (HB1.out.trans (hb.mono HB1.out.size))
        clear hno hb HOf
        go_wp2_with fail
        refine (rright_any a0 n0 c0 l0 w2 (HE.out.below HB2.out) HN0.out (by omega) HZj.out).mono ?_
        rintro e w3 ⟨rfl, hb⟩
        rw [HRB.out]
        have HB3 := Lib.hid (HB2.out.trans (hb.mono HB2.out.size))
        clear hb HB2
        go_wp2_with fail
        refine (rright9_any as' ns0 cs' xs0 s0 X w3 (HS.out.below HB3.out) (MatchR.g HM.out) (by omega)).mono ?_
        rintro e w4 (⟨rfl, hok, hb⟩ | ⟨rfl, -, hb⟩)
        ·exact absurd hok HNo.out
        have HB4 := Lib.hid (HB3.out.trans (hb.mono HB3.out.size))
        clear hb HB3
        go_wp2
        go_ret
        exact ⟨rfl, HB.out.trans (HB4.out.mono HB.out.size)⟩
      ·have HR0 := Lib.hid hr0
       have HRB : Hid (rghtB l0 = false) := Lib.hid (by
        cases h : rghtB l0 with
        | false => rfl
        | true => exact absurd ((rght_iff l0).1 h) HR0.out)
       clear hr0
       go_wp2_with fail
       refine (mof_badD a0 n0 c0 l0 _ w1 (HE.out.below HB1.out) (by have := HN0.out; omega) HZ0.out HR0.out (HML.out.below HB1.out)).mono ?_
       rintro e w2 ⟨rfl, hb⟩
       have HB2 := Lib.hid (HB1.out.trans (hb.mono HB1.out.size))
       clear hb
       go_wp2_with fail
       refine (rright_any a0 n0 c0 l0 w2 (HE.out.below HB2.out) HN0.out (by omega) HZj.out).mono ?_
       rintro e w3 ⟨rfl, hb⟩
       rw [HRB.out]
       have HB3 := Lib.hid (HB2.out.trans (hb.mono HB2.out.size))
       clear hb
       go_wp2
       go_ret
       exact ⟨rfl, HB.out.trans (HB3.out.mono HB.out.size)⟩
end Go.Proofs.YtodcmhmankmaoaaGreat
