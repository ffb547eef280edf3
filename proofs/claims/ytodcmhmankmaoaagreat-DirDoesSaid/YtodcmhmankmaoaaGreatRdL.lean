/-
  Whatever commands are done, from any entries on, each reply, and all entries behind, is just what the document says.
-/
import Derived.Test.YtodcmhmankmaoaaGreatRdA
import Derived.Test.YtodcmhmankmaoaaGreatRdO
import Derived.Test.YtodcmhmankmaoaaGreatRdM
import Derived.Test.YtodcmhmankmaoaaGreatJ7
import Derived.IntWalk
namespace Go.Proofs.YtodcmhmankmaoaaGreat
open Go.RowKit
set_option linter.unusedSimpArgs false
set_option linter.unusedVariables false
set_option maxRecDepth 100000

/-- The program's directory and the document's, side by side. -/
structure JD (X : World) (d bk base r : Nat) (T : TypeId) (cs : List Value) (k : Nat) (v0 : Value) (l : List E3) (w : World) : Prop where
  dir : DirAt w d bk (61 + k) l
  ml : ML X
  below : Below X.heap.size X w
  lo : X.heap.size ≤ d ∧ X.heap.size ≤ bk ∧ X.heap.size ≤ r
  right : RightD l
  ver : verB (1099511627776 + k) l
  rd : RD w base r T cs v0 l
  lt : d < r ∧ bk < r ∧ base ≤ w.heap.size
theorem JD.on {X w w' : World} {d bk base r : Nat} {T : TypeId} {cs : List Value} {k : Nat} {v0 : Value} {l : List E3} (h : JD X d bk base r T cs k v0 l w) (hb : Below w.heap.size w w') : JD X d bk base r T cs k v0 l w' :=
  ⟨h.dir.below hb, h.ml, h.below.trans (hb.mono h.below.size), h.lo, h.right, h.ver, h.rd.below hb, h.lt.1, h.lt.2.1, Nat.le_trans h.lt.2.2 hb.size⟩
theorem JD.mlw {X w : World} {d bk base r : Nat} {T : TypeId} {cs : List Value} {k : Nat} {v0 : Value} {l : List E3} (h : JD X d bk base r T cs k v0 l w) : ML w := h.ml.below h.below
theorem JD.few {X w : World} {d bk base r : Nat} {T : TypeId} {cs : List Value} {k : Nat} {v0 : Value} {l : List E3} (h : JD X d bk base r T cs k v0 l w) : l.length ≤ 61 + k := by
  obtain ⟨D, m, hm, hM, hI⟩ := h.dir.map
  rw [← hI.size]
  exact Nat.le_trans hM.size_le hm
theorem JD.small {X w : World} {d bk base r : Nat} {T : TypeId} {cs : List Value} {k : Nat} {v0 : Value} {l : List E3} (h : JD X d bk base r T cs k v0 l w) : ∀ x ∈ l, x.1.size ≤ 1000 := fun x hx => okP_size (h.right.keys x hx)
theorem JD.vers {X w : World} {d bk base r : Nat} {T : TypeId} {cs : List Value} {k : Nat} {v0 : Value} {l : List E3} (h : JD X d bk base r T cs k v0 l w) (hk : k ≤ 1000) : ∀ x ∈ l, 0 ≤ x.2.2 ∧ x.2.2 ≤ 4000000000000 := fun x hx => by
  have := h.ver x hx
  exact ⟨this.1, by omega⟩
/-- A directory of the document's stays where another block turns. -/
theorem RD.out {w w' : World} {base r bk : Nat} {T : TypeId} {cs : List Value} {v0 : Value} {l : List E3} (h : RD w base r T cs v0 l) (hg : w.grownBy w' (some bk)) (hb : bk < r) : RD w' base r T cs v0 l := by
  have hlt := h.lt
  have f := Fr.grown hg
  exact ⟨f.bk h.bk (fun e => by injection e with e; omega), f.own h.own (fun q hq e => by injection e with e; have := h.own.from q hq; omega), h.lt⟩
theorem JD.next {X w w' w2 w3 : World} {d bk base r : Nat} {T : TypeId} {cs : List Value} {k : Nat} {v0 : Value} {l : List E3} (h : JD X d bk base r T cs k v0 l w) (op : Int) (p v : ByteArray) (ver : Int)
    (hd : DirAt w' d bk (61 + k + 1) (appD l op p v ver).2) (hg : w.grownBy w' (some bk)) (hb : Below w'.heap.size w' w2) (h3 : RDP w2 base r T cs v0 (appD l op p v ver).2 w3) : ∃ v', JD X d bk base r T cs (k + 1) v' (appD l op p v ver).2 w3 := by
  obtain ⟨v', hr, _⟩ := h3.ex
  have hlo := h.lo
  have hlt := h.lt
  have hrl := h.rd.lt
  have s1 : base ≤ w2.heap.size := Nat.le_trans hlt.2.2 (Nat.le_trans hg.size hb.size)
  have hR2 : RD w2 base r T cs v0 l := (h.rd.out hg hlt.2.1).below hb
  have b3 : Below r w2 w3 := h3.fr.to (by omega) (fun j hj q => by
    rcases q with q | q
    · omega
    · have := hR2.own.from j q; omega)
  refine ⟨v', (hd.below hb).low b3 hlt.1 hlt.2.1, h.ml, ?_, h.lo, h.right.app op p v ver, app_ver h.right.rise h.right.keys h.ver op p v ver, hr, hlt.1, hlt.2.1, Nat.le_trans s1 h3.fr.size⟩
  have q1 : Below X.heap.size X w' := h.below.grown hg h.below.size (fun j hj => by cases hj; exact h.lo.2.1)
  exact (q1.trans (hb.mono q1.size)).trans (b3.mono hlo.2.2)
theorem nms_fr {S : Nat → Prop} {w w' : World} {B : Nat} {v : Value} {ns : List ByteArray} (h : Own1 w B 9 v (ns.map .string)) (hf : Fr S w w') (hs : ∀ j, B ≤ j → ¬ S j) : Own1 w' B 9 v (ns.map .string) := by
  refine h.keepB fun k hk => hf.block k ?_ (hs k (own1_from h k hk))
  obtain ⟨cs, fr, e⟩ := h.blk k hk
  exact Nat.lt_of_not_le fun q => by rw [Array.getElem?_eq_none q] at e; cases e
set_option maxHeartbeats 8000000 in
theorem dirDoes_walk (a0 : Option Addr) (c0 : Nat) (l0 : List E3) (a : Option Addr) (n c : Nat) (ts : List Cm) (w : World) (hE : EK.Rd w (.slice a0 l0.length c0) l0) (hn : n = ts.length) (hC : CRd w a ts) (hm : ML w) :
    Calls Tryz.prog 3 #[.slice a0 l0.length c0, .slice a n c] w fun e w' => e = .returned (.bool true) ∧ Below w.heap.size w w' := by
  obtain ⟨n0, hn0⟩ : ∃ q, l0.length = q := ⟨_, rfl⟩
  rw [hn0] at hE ⊢
  have HN0 := Lib.hid hn0.symm
  have HN := Lib.hid hn
  have HM := Lib.hid hm
  have HC := Lib.hid hC
  have HE := Lib.hid hE
  have hn63 : n0 ≤ 9223372036854775807 := by have := HE.out.len; rw [hn0] at this; unfold maxLen at this; omega
  have HN63 := Lib.hid hn63
  clear hn hm hC hE hn0 hn63
  go_enter Tryz.func3, Tryz.ntmps3
  go_wp2_with fail
  refine (works_any _ HM.out).mono ?_
  rintro e w1 ⟨rfl, hb⟩
  have HB1 := Lib.hid hb
  have HM1 := Lib.hid (HM.out.below hb)
  have HE1 := Lib.hid (HE.out.below hb)
  have HC1 := Lib.hid (HC.out.below hb)
  clear hb HE
  go_wp2_with fail
  refine (over_any a n c ts w1 HN.out HC1.out).mono ?_
  rintro e w' ⟨rfl, rfl⟩
  obtain ⟨O, hO⟩ : ∃ O, ovB ts = O := ⟨_, rfl⟩
  rw [hO]
  have HO := Lib.hid hO
  clear hO
  cases O with
  | true =>
    go_wp2
    go_ret
    exact ⟨rfl, HB1.out⟩
  | false =>
    have hov := ovB_no HO.out
    have hn60 : n ≤ 60 := by have := HN.out; omega
    have HS := Lib.hid hov.2
    clear hov HO
    go_wp2_with fail
    refine (many_any a0 n0 c0 l0 w1 HE1.out HN0.out HN63.out).mono ?_
    rintro e w' (⟨rfl, hMB, rfl⟩ | ⟨rfl, rfl⟩)
    rotate_left
    · go_wp2
      go_ret
      exact ⟨rfl, HB1.out⟩
    · have HFw := Lib.hid hMB
      have HZ0 : Hid (∀ x ∈ l0, x.1.size ≤ 1000) := Lib.hid fun x hx => by have := (HFw.out.2 x hx).1; omega
      have HZj : Hid (∀ j, j < l0.length → (l0.getD j EK.d).1.size ≤ 1000) := Lib.hid fun j hj => HZ0.out _ (by simp [List.getD, hj])
      have hn060 : n0 ≤ 60 := by have := HFw.out.1; have := HN0.out; omega
      clear hMB HN63
      by_cases hr0 : RightD l0
      · have HR0 := Lib.hid hr0
        have HRB := Lib.hid ((rght_iff l0).2 hr0)
        clear hr0
        go_wp2_with fail
        refine (ofd_any a0 n0 c0 l0 w1 HE1.out (by have := HN0.out; omega) HR0.out HM1.out).mono ?_
        rintro e w2 ⟨he, hd, hb⟩
        have he := he.out
        subst he
        obtain ⟨d, hdd⟩ : ∃ d, w1.heap.size + 1 = d := ⟨_, rfl⟩
        obtain ⟨bk, hbk⟩ : ∃ b, w1.heap.size = b := ⟨_, rfl⟩
        have HLo : Hid (w.heap.size ≤ d ∧ w.heap.size ≤ bk) := Lib.hid (by have := HB1.out.size; omega)
        rw [hdd] at hd ⊢
        rw [hbk] at hd
        have HD2 := Lib.hid (hd.mono (show l0.length ≤ 61 + 0 by have := HN0.out; omega))
        have HB2 := Lib.hid (HB1.out.trans (hb.mono HB1.out.size))
        have HM2 := Lib.hid (HM1.out.below hb)
        have HE2 := Lib.hid (HE1.out.below hb)
        have HC2 := Lib.hid (HC1.out.below hb)
        clear hd hb hdd hbk HM1 HE1 HC1
        go_wp2_with fail
        refine (rright_any a0 n0 c0 l0 w2 HE2.out HN0.out (by omega) HZj.out).mono ?_
        rintro e w3 ⟨rfl, hb⟩
        rw [HRB.out]
        have HD3 := Lib.hid (HD2.out.below hb)
        have HB3 := Lib.hid (HB2.out.trans (hb.mono HB2.out.size))
        have HE3 := Lib.hid (HE2.out.below hb)
        have HC3 := Lib.hid (HC2.out.below hb)
        have HM3 := Lib.hid (HM.out)
        clear hb HM2 HE2 HC2 HD2
        obtain ⟨r, hr⟩ : ∃ r, w3.heap.size = r := ⟨_, rfl⟩
        obtain ⟨W4, hW4⟩ : ∃ q, w3.alloc (.cells #[.slice none 0 0] 33) = q := ⟨_, rfl⟩
        have HK4 : Hid (Bk W4 r 33 [.slice none 0 0]) := Lib.hid (by rw [← hW4, ← hr]; exact Bk.new w3 _ [.slice none 0 0])
        have HX4 : Hid (Below w3.heap.size w3 W4) := Lib.hid (by rw [← hW4]; exact (Below.refl _ _).alloc (Nat.le_refl _) _)
        have HS4 : Hid (W4.heap.size = r + 1) := Lib.hid (by rw [← hW4, ← hr]; simp)
        have HLt : Hid (d < r ∧ bk < r ∧ w.heap.size ≤ r) := Lib.hid (by
          have q := HD3.out.lt
          have := HB3.out.size
          omega)
        have HE4 := Lib.hid (HE3.out.below HX4.out)
        have t0 := HK4.out.cell 0
        simp only [List.getElem?_cons_zero] at t0
        have f0 := HK4.out.fz 0
        go_wp2_with (refine EK.app rfl _ _ rfl (r + 1) (.slice none 0 0) [] rfl ?own _ l0 rfl ?rd (by have := HN0.out; simp; omega) ?bs ?_)
        case own => exact Knd.Own.nil _ _
        case rd => exact HE4.out
        case bs => exact Nat.le_of_eq HS4.out.symm
        intro v5 w5 ho hb _ _
        try rw [List.nil_append] at ho
        obtain ⟨a5, c5, e5⟩ := ho.slice
        rw [← HN0.out] at e5
        subst e5
        have hb5 : Below W4.heap.size W4 w5 := by rw [HS4.out]; exact hb
        have HK5 := Lib.hid (HK4.out.below hb5)
        have HBr : Hid (Below r W4 w5) := Lib.hid (hb5.mono (by rw [HS4.out]; exact Nat.le_succ _))
        have f5 := HK5.out.fz 0
        have s5 := HK5.out.cell 0
        simp only [List.getElem?_cons_zero] at s5
        obtain ⟨w6, hw6⟩ : ∃ q, w5.setCell ⟨r, 0, none⟩ (.slice a5 n0 c5) = q := ⟨_, rfl⟩
        have HJ0 : Hid (JD w d bk (r + 1) r 33 [] 0 (.slice a5 n0 c5) l0 w6) := Lib.hid (by
          have hlt := HLt.out
          have hlo := HLo.out
          have hs3 : w3.heap.size ≤ W4.heap.size := HX4.out.size
          have b36 : Below r w3 w6 := by
            rw [← hw6]
            refine Below.setCell ?_ (Nat.le_refl r) _
            exact (HX4.out.mono (Nat.le_of_eq hr.symm)).trans HBr.out
          refine ⟨HD3.out.low b36 hlt.1 hlt.2.1, HM3.out, HB3.out.trans (b36.mono hlt.2.2), ⟨hlo.1, hlo.2, hlt.2.2⟩, HR0.out, fun e he => ?_, ⟨?_, ?_, Nat.lt_succ_self r⟩, hlt.1, hlt.2.1, ?_⟩
          · have h1 := HR0.out.vers e he
            have h2 := (HFw.out.2 e he).2.2
            exact ⟨by omega, by omega⟩
          · rw [← hw6]; exact HK5.out.set 0 _
          · rw [← hw6]; exact own_setA ho (Nat.lt_succ_self r) 0 _
          · rw [← hw6]
            have := hb5.size
            rw [HS4.out] at this
            simpa using this)
        clear ho hb hb5 t0 f0
        have HSn : Hid (∀ j, j < ts.length → (ts.getD j default).pa.size ≤ 300) := Lib.hid fun j hj => (HS.out j hj).1
        go_wp2_with fail
        clear hw6 f5 s5
        go_loopw [10] (fun i wr => ∃ (k : Nat) (v0 : Value), k ≤ n ∧ i = .int .i64 k ∧ Hid (JD w d bk (r + 1) r 33 [] k v0 (runD l0 (ts.take k)) wr)) (fun i _ => n - (intOf i).toNat)
        case atStart => exact ⟨0, _, Nat.zero_le _, rfl, HJ0⟩
        case round =>
          clear HJ0
          obtain ⟨k, v0, hk, rfl, hJ⟩ := hrel
          by_cases hlt : k < n
          · have hlt' : (k : Int) < (n : Int) := by omega
            have hkl : k < ts.length := by have := HN.out; omega
            rcases (HC.out.below hJ.out.below).2 with h0 | ⟨g, off, ha, hg, hcm⟩
            · exfalso
              rw [h0] at hkl
              simp at hkl
            have hcm1 := hcm k hkl
            have hsz := HSn.out k hkl
            have hrs := runD_succ l0 ts k hkl
            obtain ⟨t, ht⟩ : ∃ t, ts.getD k default = t := ⟨_, rfl⟩
            rw [ht] at hcm1 hsz hrs
            have HP := Lib.hid (show t.pa.size ≤ 1000 by omega)
            have HRS := Lib.hid hrs
            have HCm : Hid (∀ wq, Below w.heap.size w wq → CmAt wq g (off + k * 8) t) := Lib.hid fun wq hq => by
              rcases (HC.out.below hq).2 with h0 | ⟨g', off', ha', -, hcm'⟩
              · rw [h0] at hkl
                simp at hkl
              rw [ha] at ha'
              simp only [Option.some.injEq, Addr.mk.injEq, and_true] at ha'
              obtain ⟨rfl, rfl⟩ := ha'
              have := hcm' k hkl
              rwa [ht] at this
            obtain ⟨m0, m1, m2, m3, m4, m5, m6, m7⟩ := hcm1
            subst ha
            obtain ⟨L, hL⟩ : ∃ q, runD l0 (ts.take k) = q := ⟨_, rfl⟩
            rw [hL] at hJ HRS
            obtain ⟨⟨⟨er, vl, vr, ns⟩, L2⟩, hR⟩ : ∃ R, appD L t.op t.pa t.va t.ver = R := ⟨_, rfl⟩
            have HR := Lib.hid hR
            have HAp := Lib.hid (apply_any d bk (61 + k) L t.cl t.sq t.op t.pa t.va t.ver t.a t.b wr hJ.out.dir (by omega) HP.out hJ.out.mlw (hJ.out.vers (by omega)))
            rw [hR] at HAp
            clear hcm ht hsz hrs hg hL hR hkl
            go_wp2_with fail
            refine HAp.out.mono ?_
            rintro e w5 ⟨⟨v5, he, ho⟩, hd5, hg5⟩
            have he := he.out
            subst he
            simp only at ho hd5
            obtain ⟨a5, c5, hv5⟩ := ho.slice
            obtain ⟨M, hM⟩ : ∃ M, (List.map Value.string ns).length = M := ⟨_, rfl⟩
            rw [hM] at hv5
            subst hv5
            have HM5 : Hid (ns.length = M) := Lib.hid (by rw [← hM]; simp)
            have HO5 := Lib.hid ho
            have HD5 := Lib.hid hd5
            have HG5 := Lib.hid hg5
            obtain ⟨Z5, hZ5⟩ : ∃ Z, w5.alloc (.cells #[.int .i64 er, .string vl, .int .i64 vr, .slice a5 M c5] 36) = Z := ⟨_, rfl⟩
            obtain ⟨g5, hgg5⟩ : ∃ g, w5.heap.size = g := ⟨_, rfl⟩
            have HK5 : Hid (Bk Z5 g5 36 [.int .i64 er, .string vl, .int .i64 vr, .slice a5 M c5]) := Lib.hid (by rw [← hZ5, ← hgg5]; exact Bk.new w5 _ [.int .i64 er, .string vl, .int .i64 vr, .slice a5 M c5])
            have HBZ : Hid (Below w5.heap.size w5 Z5) := Lib.hid (by rw [← hZ5]; exact (Below.refl _ _).alloc (Nat.le_refl _) _)
            have HG5w : Hid (w.heap.size ≤ wr.heap.size ∧ wr.heap.size ≤ g5) := Lib.hid ⟨hJ.out.below.size, by rw [← hgg5]; exact hg5.size⟩
            have HB5 : Hid (Below w.heap.size w Z5) := Lib.hid (by
              have q := hJ.out.below.grown hg5 hJ.out.below.size (fun j hj => by cases hj; exact hJ.out.lo.2.1)
              exact q.trans (HBZ.out.mono q.size))
            have HRD5 : Hid (RD Z5 (r + 1) r 33 [] v0 L) := Lib.hid ((hJ.out.rd.out hg5 hJ.out.lt.2.1).below HBZ.out)
            have HNx : Hid (∀ w6, RDP Z5 (r + 1) r 33 [] v0 L2 w6 → ∃ v', JD w d bk (r + 1) r 33 [] (k + 1) v' L2 w6) := Lib.hid fun w6 h6 => by
              have := hJ.out.next t.op t.pa t.va t.ver (w' := w5) (w2 := Z5) (w3 := w6) (by rw [HR.out]; exact hd5) hg5 HBZ.out (by rw [HR.out]; exact h6)
              rwa [HR.out] at this
            have HRA := Lib.hid (rapply_any HRD5.out (Nat.le_trans hJ.out.lt.2.2 (Nat.le_trans hg5.size HBZ.out.size)) (by have := hJ.out.few; omega) hJ.out.right hJ.out.small (hJ.out.vers (by omega)) t.cl t.sq t.op t.pa t.va t.ver t.a t.b HP.out)
            rw [HR.out] at HRA
            have hBs := hJ.out.lt.2.2
            have HBs : Hid (r + 1 ≤ wr.heap.size) := Lib.hid hBs
            have HOw : Hid (∀ q, v0.ownBlock = some q → q < wr.heap.size) := Lib.hid fun q hq => (hJ.out.rd.own.blk q hq).1
            clear ho hd5 hg5 hM hJ HAp m0 m1 m2 m3 m4 m5 m6 m7 hBs
            obtain ⟨m0, m1, m2, m3, m4, m5, m6, m7⟩ := HCm.out Z5 HB5.out
            go_wp2_with fail
            try rw [hZ5]
            try rw [hgg5]
            clear hZ5 hgg5
            refine HRA.out.mono ?_
            rintro e w6 ⟨⟨v6, he, ho6⟩, hr6⟩
            have he := he.out
            subst he
            simp only at ho6 hr6
            obtain ⟨a6, c6, hv6⟩ := ho6.slice
            rw [List.length_map, HM5.out] at hv6
            subst hv6
            obtain ⟨v', hJ6⟩ := HNx.out w6 hr6
            have hfr := hr6.fr
            have hgs := HG5w.out
            have hbs := HBs.out
            have HK6 := Lib.hid (hfr.bk HK5.out (fun q => by
              rcases q with q | q
              · omega
              · have := HOw.out _ q; omega))
            have HO56 := Lib.hid (nms_fr (HO5.out.below HBZ.out) hfr (fun j hj q => by
              rcases q with q | q
              · omega
              · have := HOw.out _ q; omega))
            have HO6 := Lib.hid ho6
            obtain ⟨Z6, hZ6⟩ : ∃ Z, w6.alloc (.cells #[.int .i64 er, .string vl, .int .i64 vr, .slice a6 M c6] 36) = Z := ⟨_, rfl⟩
            obtain ⟨g6, hgg6⟩ : ∃ g, w6.heap.size = g := ⟨_, rfl⟩
            have hbz6 : Below w6.heap.size w6 Z6 := by rw [← hZ6]; exact (Below.refl _ _).alloc (Nat.le_refl _) _
            have HJ7 := Lib.hid (hJ6.on hbz6)
            have HQ5 := Lib.hid (HK6.out.below hbz6)
            have HQ6 : Hid (Bk Z6 g6 36 [.int .i64 er, .string vl, .int .i64 vr, .slice a6 M c6]) := Lib.hid (by rw [← hZ6, ← hgg6]; exact Bk.new w6 _ [.int .i64 er, .string vl, .int .i64 vr, .slice a6 M c6])
            have HN5 : Hid (Nms Z6 (.slice a5 M c5) ns) := Lib.hid ((HO56.out.nms (by have := own1_small HO56.out; simpa using this)).below hbz6)
            have HN6 : Hid (Nms Z6 (.slice a6 M c6) ns) := Lib.hid ((HO6.out.nms (by have := own1_small HO6.out; simpa using this)).below hbz6)
            have p0 := HQ5.out.cell 0
            have p1 := HQ5.out.cell 1
            have p2 := HQ5.out.cell 2
            have p3 := HQ5.out.cell 3
            have q0 := HQ6.out.cell 0
            have q1 := HQ6.out.cell 1
            have q2 := HQ6.out.cell 2
            have q3 := HQ6.out.cell 3
            simp only [List.getElem?_cons_zero, List.getElem?_cons_succ] at p0 p1 p2 p3 q0 q1 q2 q3
            have HSm := Lib.hid (same_any ⟨er, vl, vr, ns⟩ (.slice a5 M c5) (.slice a6 M c6) Z6 HN5.out HN6.out)
            clear ho6 hr6 hJ6 hfr hgs hbs hbz6 m0 m1 m2 m3 m4 m5 m6 m7 HRA HNx
            go_wp2_with fail
            try rw [hZ6]
            try rw [hgg6]
            clear hZ6 hgg6
            refine HSm.out.mono ?_
            rintro e w7 ⟨rfl, hb⟩
            have HJ8 := Lib.hid (HJ7.out.on hb)
            obtain ⟨aR, cR, hvR⟩ := HJ8.out.rd.own.slice
            obtain ⟨N, hNN⟩ : ∃ N, L2.length = N := ⟨_, rfl⟩
            rw [hNN] at hvR
            subst hvR
            have HLn : Hid (∀ wq, Below w7.heap.size w7 wq → Calls Tryz.prog 13 #[dP d] wq fun e w' => e = .returned (.int .i64 N) ∧ Below wq.heap.size wq w') := Lib.hid fun wq hq => by
              have := len_any d bk (61 + (k + 1)) L2 wq (HJ8.out.on hq).dir
              rwa [hNN] at this
            have HKP : Hid (∀ w' : World, Below w7.heap.size w7 w' → (w'.cell? ⟨r, 0, none⟩ = some (.slice aR N cR) ∧ Below w7.heap.size w7 w')) := Lib.hid fun w' hq => ⟨(HJ8.out.on hq).rd.bk.cell 0, hq⟩
            have z1 : ((N : Int) != (N : Int)) = false := by simp
            have z2 : ((N : Int) == (N : Int)) = true := by simp
            clear hb hNN p0 p1 p2 p3 q0 q1 q2 q3 HJ7 HSm
            go_wp2_with fail
            refine wp_region_held_drew (S := (fun w' => w'.cell? ⟨r, 0, none⟩ = some (.slice aR N cR) ∧ Below w7.heap.size w7 w')) (by kernel_rfl) ?_ (fun hHeld => ?_)
            · ((first
              | exact HKP.out _ (Below.refl _ _)
              | exact HKP.out _ (Below.refl _ _).drew
              | (go_split_ands; exact HKP.out _ (below_self (by assumption) (by assumption)))
              | (go_split_ands; exact HKP.out _ (Below.drew (by assumption)))
              | (go_split_ands; exact HKP.out _ (by assumption))
              | fail))
            refine wpAnyH_take (i := 0) (v := ?_) rfl (by kernel_rfl) (by kernel_rfl) (by kernel_rfl) (fun _ _ _ h => h) (Or.inl ⟨by rfl, ?_⟩) (by assumption) ?_
            rotate_left
            · (intro w hSw; (try dsimp only at hSw); go_simp; try rfl)
            try simp only [Act.put, List.setIfInBounds_toArray, List.set_cons_zero, List.set_cons_succ, List.getElem_toArray, List.getElem_cons_zero, List.getElem_cons_succ]
            refine wpAnyH_take (i := 1) (v := ?_) rfl (by kernel_rfl) (by kernel_rfl) (by kernel_rfl) (fun _ _ _ h => h) (Or.inl ⟨by rfl, ?_⟩) (by assumption) ?_
            rotate_left
            · (intro w hSw; (try dsimp only at hSw); go_simp; try rfl)
            try simp only [Act.put, List.setIfInBounds_toArray, List.set_cons_zero, List.set_cons_succ, List.getElem_toArray, List.getElem_cons_zero, List.getElem_cons_succ]
            refine wpAnyH_take (i := 2) (v := ?_) rfl (by kernel_rfl) (by kernel_rfl) (by kernel_rfl) (fun _ _ _ h => h) (Or.inl ⟨by rfl, ?_⟩) (by assumption) ?_
            rotate_left
            · (intro w hSw; (try dsimp only at hSw); go_simp; try rfl)
            try simp only [Act.put, List.setIfInBounds_toArray, List.set_cons_zero, List.set_cons_succ, List.getElem_toArray, List.getElem_cons_zero, List.getElem_cons_succ]
            refine wpAnyH_take (i := 3) (v := ?_) rfl (by kernel_rfl) (by kernel_rfl) (by kernel_rfl) (fun _ _ _ h => h) (Or.inl ⟨by rfl, ?_⟩) (by assumption) ?_
            rotate_left
            · (intro w hSw; (try dsimp only at hSw); go_simp; try rfl)
            try simp only [Act.put, List.setIfInBounds_toArray, List.set_cons_zero, List.set_cons_succ, List.getElem_toArray, List.getElem_cons_zero, List.getElem_cons_succ]
            refine wpAnyH_take (i := 5) (v := ?_) rfl (by kernel_rfl) (by kernel_rfl) (by kernel_rfl) (fun _ _ _ h => h) (Or.inl ⟨by rfl, ?_⟩) (by assumption) ?_
            rotate_left
            · (intro w hSw; (try dsimp only at hSw); go_simp; try rfl)
            try simp only [Act.put, List.setIfInBounds_toArray, List.set_cons_zero, List.set_cons_succ, List.getElem_toArray, List.getElem_cons_zero, List.getElem_cons_succ]
            refine wpAnyH_take (i := 6) (v := ?_) rfl (by kernel_rfl) (by kernel_rfl) (by kernel_rfl) (fun _ _ _ h => h) (Or.inl ⟨by rfl, ?_⟩) (by assumption) ?_
            rotate_left
            · (intro w hSw; (try dsimp only at hSw); go_simp; try rfl)
            try simp only [Act.put, List.setIfInBounds_toArray, List.set_cons_zero, List.set_cons_succ, List.getElem_toArray, List.getElem_cons_zero, List.getElem_cons_succ]
            refine wpAnyH_take (i := 7) (v := ?_) rfl (by kernel_rfl) (by kernel_rfl) (by kernel_rfl) (fun _ _ _ h => h) (Or.inl ⟨by rfl, ?_⟩) (by assumption) ?_
            rotate_left
            · (intro w hSw; (try dsimp only at hSw); go_simp; try rfl)
            try simp only [Act.put, List.setIfInBounds_toArray, List.set_cons_zero, List.set_cons_succ, List.getElem_toArray, List.getElem_cons_zero, List.getElem_cons_succ]
            refine wpAnyH_take (i := 8) (v := ?_) rfl (by kernel_rfl) (by kernel_rfl) (by kernel_rfl) (fun _ _ _ h => h) (Or.inl ⟨by rfl, ?_⟩) (by assumption) ?_
            rotate_left
            · (intro w hSw; (try dsimp only at hSw); go_simp; try rfl)
            try simp only [Act.put, List.setIfInBounds_toArray, List.set_cons_zero, List.set_cons_succ, List.getElem_toArray, List.getElem_cons_zero, List.getElem_cons_succ]
            refine wpAnyH_ready (rs := [4, 9]) (by kernel_rfl) (by simp) ?_
            refine (AllReadyH.cons rfl (fun K hK => ?_) (AllReadyH.cons rfl (fun K hK => ?_) AllReadyH.nil))
            ·
              go_simp
              (go_at_call 13; go_split_ands; refine (HLn.out _ (by assumption)).mono ?_; rintro e w8 ⟨rfl, hbw8⟩)
              refine hK.out _ _ ?_ (fun hHeld => ?_)
              · ((first
              | exact HKP.out _ (Below.refl _ _)
              | exact HKP.out _ (Below.refl _ _).drew
              | (go_split_ands; exact HKP.out _ (below_self (by assumption) (by assumption)))
              | (go_split_ands; exact HKP.out _ (Below.drew (by assumption)))
              | (go_split_ands; exact HKP.out _ (by assumption))
              | fail))
              clear hK K
              try simp only [Act.put, List.setIfInBounds_toArray, List.set_cons_zero, List.set_cons_succ, List.getElem_toArray, List.getElem_cons_zero, List.getElem_cons_succ]
              refine wpAnyH_ready (rs := [9]) (by kernel_rfl) (by simp) ?_
              refine (AllReadyH.cons rfl (fun K hK => ?_) AllReadyH.nil)
              go_simp
              refine hK.out _ _ ?_ (fun hHeld => ?_)
              · ((first
              | exact HKP.out _ (Below.refl _ _)
              | exact HKP.out _ (Below.refl _ _).drew
              | (go_split_ands; exact HKP.out _ (below_self (by assumption) (by assumption)))
              | (go_split_ands; exact HKP.out _ (Below.drew (by assumption)))
              | (go_split_ands; exact HKP.out _ (by assumption))
              | fail))
              clear hK K
              try simp only [Act.put, List.setIfInBounds_toArray, List.set_cons_zero, List.set_cons_succ, List.getElem_toArray, List.getElem_cons_zero, List.getElem_cons_succ]
              refine wpAnyH_take (i := 10) (v := ?_) rfl (by kernel_rfl) (by kernel_rfl) (by kernel_rfl) (fun _ _ _ h => h) (Or.inl ⟨by rfl, ?_⟩) (by assumption) ?_
              rotate_left
              · (intro w hSw; (try dsimp only at hSw); go_simp; try rfl)
              try simp only [Act.put, List.setIfInBounds_toArray, List.set_cons_zero, List.set_cons_succ, List.getElem_toArray, List.getElem_cons_zero, List.getElem_cons_succ]
              refine wpAnyH_take (i := 11) (v := ?_) rfl (by kernel_rfl) (by kernel_rfl) (by kernel_rfl) (fun _ _ _ h => h) (Or.inl ⟨by rfl, ?_⟩) (by assumption) ?_
              rotate_left
              · (intro w hSw; (try dsimp only at hSw); go_simp; try rfl)
              try simp only [Act.put, List.setIfInBounds_toArray, List.set_cons_zero, List.set_cons_succ, List.getElem_toArray, List.getElem_cons_zero, List.getElem_cons_succ]
              refine wpAnyH_done (by kernel_rfl) ?_ _
              go_split_ands
              have hbn : Below w7.heap.size w7 w8 := by assumption
              have HJ9 := Lib.hid (HJ8.out.on hbn)
              clear hbn HKP HJ8 HLn
              go_wp2
              go_roundw
              case rel => exact ⟨k + 1, _, by omega, by go_num, Lib.hid (by rw [HRS.out, HR.out]; exact HJ9.out)⟩
              case measure => simp [intOf]; omega
            ·
              go_simp
              refine hK.out _ _ ?_ (fun hHeld => ?_)
              · ((first
              | exact HKP.out _ (Below.refl _ _)
              | exact HKP.out _ (Below.refl _ _).drew
              | (go_split_ands; exact HKP.out _ (below_self (by assumption) (by assumption)))
              | (go_split_ands; exact HKP.out _ (Below.drew (by assumption)))
              | (go_split_ands; exact HKP.out _ (by assumption))
              | fail))
              clear hK K
              try simp only [Act.put, List.setIfInBounds_toArray, List.set_cons_zero, List.set_cons_succ, List.getElem_toArray, List.getElem_cons_zero, List.getElem_cons_succ]
              refine wpAnyH_ready (rs := [4]) (by kernel_rfl) (by simp) ?_
              refine (AllReadyH.cons rfl (fun K hK => ?_) AllReadyH.nil)
              go_simp
              (go_at_call 13; go_split_ands; refine (HLn.out _ (by assumption)).mono ?_; rintro e w8 ⟨rfl, hbw8⟩)
              refine hK.out _ _ ?_ (fun hHeld => ?_)
              · ((first
              | exact HKP.out _ (Below.refl _ _)
              | exact HKP.out _ (Below.refl _ _).drew
              | (go_split_ands; exact HKP.out _ (below_self (by assumption) (by assumption)))
              | (go_split_ands; exact HKP.out _ (Below.drew (by assumption)))
              | (go_split_ands; exact HKP.out _ (by assumption))
              | fail))
              clear hK K
              try simp only [Act.put, List.setIfInBounds_toArray, List.set_cons_zero, List.set_cons_succ, List.getElem_toArray, List.getElem_cons_zero, List.getElem_cons_succ]
              refine wpAnyH_take (i := 10) (v := ?_) rfl (by kernel_rfl) (by kernel_rfl) (by kernel_rfl) (fun _ _ _ h => h) (Or.inl ⟨by rfl, ?_⟩) (by assumption) ?_
              rotate_left
              · (intro w hSw; (try dsimp only at hSw); go_simp; try rfl)
              try simp only [Act.put, List.setIfInBounds_toArray, List.set_cons_zero, List.set_cons_succ, List.getElem_toArray, List.getElem_cons_zero, List.getElem_cons_succ]
              refine wpAnyH_take (i := 11) (v := ?_) rfl (by kernel_rfl) (by kernel_rfl) (by kernel_rfl) (fun _ _ _ h => h) (Or.inl ⟨by rfl, ?_⟩) (by assumption) ?_
              rotate_left
              · (intro w hSw; (try dsimp only at hSw); go_simp; try rfl)
              try simp only [Act.put, List.setIfInBounds_toArray, List.set_cons_zero, List.set_cons_succ, List.getElem_toArray, List.getElem_cons_zero, List.getElem_cons_succ]
              refine wpAnyH_done (by kernel_rfl) ?_ _
              go_split_ands
              have hbn : Below w7.heap.size w7 w8 := by assumption
              have HJ9 := Lib.hid (HJ8.out.on hbn)
              clear hbn HKP HJ8 HLn
              go_wp2
              go_roundw
              case rel => exact ⟨k + 1, _, by omega, by go_num, Lib.hid (by rw [HRS.out, HR.out]; exact HJ9.out)⟩
              case measure => simp [intOf]; omega
          · obtain rfl : n = k := by omega
            have hlt' : ¬ (n : Int) < (n : Int) := by omega
            obtain ⟨L, hL⟩ : ∃ q, runD l0 (ts.take n) = q := ⟨_, rfl⟩
            rw [hL] at hJ
            obtain ⟨aR, cR, hvR⟩ := hJ.out.rd.own.slice
            obtain ⟨N, hNN⟩ : ∃ N, L.length = N := ⟨_, rfl⟩
            rw [hNN] at hvR
            subst hvR
            have HLl : Hid (L.length ≤ 10000) := Lib.hid (by have := hJ.out.few; omega)
            have HEn : Hid (∀ wq, Below wr.heap.size wr wq → Calls Tryz.prog 15 #[dP d] wq (EntP L wq)) := Lib.hid fun wq hq => entries_any d bk (61 + n) L wq (hJ.out.on hq).dir (by omega) (hJ.out.on hq).mlw
            have HRw : Hid (∀ wq (v : Value), Below wr.heap.size wr wq → EK.Rd wq v L → Calls Tryz.prog 14 #[v, .slice aR N cR] wq fun e w' => e = .returned (.bool true) ∧ Below wq.heap.size wq w') := Lib.hid fun wq v hq hv => by
              have := rowD_any v (.slice aR N cR) L L wq hv (hJ.out.on hq).rd.own.rd HLl.out HLl.out
              rwa [decide_eq_true (rfl : L = L)] at this
            have HKP : Hid (∀ w' : World, Below wr.heap.size wr w' → (w'.cell? ⟨r, 0, none⟩ = some (.slice aR N cR) ∧ Below wr.heap.size wr w')) := Lib.hid fun w' hq => ⟨(hJ.out.on hq).rd.bk.cell 0, hq⟩
            have HBr2 := Lib.hid hJ.out.below
            clear hlt hNN hL hJ
            go_wp2_with fail
            refine wp_region_held_drew (S := (fun w' => w'.cell? ⟨r, 0, none⟩ = some (.slice aR N cR) ∧ Below wr.heap.size wr w')) (by kernel_rfl) ?_ (fun hHeld => ?_)
            · ((first
              | exact HKP.out _ (Below.refl _ _)
              | exact HKP.out _ (Below.refl _ _).drew
              | (go_split_ands; exact HKP.out _ (below_self (by assumption) (by assumption)))
              | (go_split_ands; exact HKP.out _ (Below.drew (by assumption)))
              | (go_split_ands; exact HKP.out _ (by assumption))
              | fail))
            refine wpAnyH_take (i := 0) (v := ?_) rfl (by kernel_rfl) (by kernel_rfl) (by kernel_rfl) (fun _ _ _ h => h) (Or.inl ⟨by rfl, ?_⟩) (by assumption) ?_
            rotate_left
            · (intro w hSw; (try dsimp only at hSw); go_simp; try rfl)
            try simp only [Act.put, List.setIfInBounds_toArray, List.set_cons_zero, List.set_cons_succ, List.getElem_toArray, List.getElem_cons_zero, List.getElem_cons_succ]
            refine wpAnyH_take (i := 1) (v := ?_) rfl (by kernel_rfl) (by kernel_rfl) (by kernel_rfl) (fun _ _ _ h => h) (Or.inl ⟨by rfl, ?_⟩) (by assumption) ?_
            rotate_left
            · (intro w hSw; (try dsimp only at hSw); go_simp; try rfl)
            try simp only [Act.put, List.setIfInBounds_toArray, List.set_cons_zero, List.set_cons_succ, List.getElem_toArray, List.getElem_cons_zero, List.getElem_cons_succ]
            refine wpAnyH_take (i := 2) (v := ?_) rfl (by kernel_rfl) (by kernel_rfl) (by kernel_rfl) (fun _ _ _ h => h) (Or.inl ⟨by rfl, ?_⟩) (by assumption) ?_
            rotate_left
            · (intro w hSw; (try dsimp only at hSw); go_simp; try rfl)
            try simp only [Act.put, List.setIfInBounds_toArray, List.set_cons_zero, List.set_cons_succ, List.getElem_toArray, List.getElem_cons_zero, List.getElem_cons_succ]
            refine wpAnyH_take (i := 4) (v := ?_) rfl (by kernel_rfl) (by kernel_rfl) (by kernel_rfl) (fun _ _ _ h => h) (Or.inl ⟨by rfl, ?_⟩) (by assumption) ?_
            rotate_left
            · (intro w hSw; (try dsimp only at hSw); go_simp; try rfl)
            try simp only [Act.put, List.setIfInBounds_toArray, List.set_cons_zero, List.set_cons_succ, List.getElem_toArray, List.getElem_cons_zero, List.getElem_cons_succ]
            refine wpAnyH_take (i := 5) (v := ?_) rfl (by kernel_rfl) (by kernel_rfl) (by kernel_rfl) (fun _ _ _ h => h) (Or.inl ⟨by rfl, ?_⟩) (by assumption) ?_
            rotate_left
            · (intro w hSw; (try dsimp only at hSw); go_simp; try rfl)
            try simp only [Act.put, List.setIfInBounds_toArray, List.set_cons_zero, List.set_cons_succ, List.getElem_toArray, List.getElem_cons_zero, List.getElem_cons_succ]
            refine wpAnyH_take (i := 6) (v := ?_) rfl (by kernel_rfl) (by kernel_rfl) (by kernel_rfl) (fun _ _ _ h => h) (Or.inl ⟨by rfl, ?_⟩) (by assumption) ?_
            rotate_left
            · (intro w hSw; (try dsimp only at hSw); go_simp; try rfl)
            try simp only [Act.put, List.setIfInBounds_toArray, List.set_cons_zero, List.set_cons_succ, List.getElem_toArray, List.getElem_cons_zero, List.getElem_cons_succ]
            refine wpAnyH_take (i := 7) (v := ?_) rfl (by kernel_rfl) (by kernel_rfl) (by kernel_rfl) (fun _ _ _ h => h) (Or.inl ⟨by rfl, ?_⟩) (by assumption) ?_
            rotate_left
            · (intro w hSw; (try dsimp only at hSw); go_simp; try rfl)
            try simp only [Act.put, List.setIfInBounds_toArray, List.set_cons_zero, List.set_cons_succ, List.getElem_toArray, List.getElem_cons_zero, List.getElem_cons_succ]
            refine wpAnyH_ready (rs := [3]) (by kernel_rfl) (by simp) ?_
            refine (AllReadyH.cons rfl (fun K hK => ?_) AllReadyH.nil)
            go_simp
            (first | (go_at_call 15; go_split_ands; refine (HEn.out _ (by assumption)).mono ?_; rintro e w8 ⟨v8, he8, ho8, hbw8⟩; rw [he8.out]; have HO8 := Lib.hid ho8; have HR8 := Lib.hid ho8.rd; clear he8 ho8) | (go_at_call 14; go_split_ands; refine (HRw.out _ _ (by assumption) (by first | exact HR8.out | exact HR8.out.below (Below.refl _ _).drew)).mono ?_; rintro e w9 ⟨rfl, hbw9⟩) | fail)
            refine hK.out _ _ ?_ (fun hHeld => ?_)
            · ((first
              | exact HKP.out _ (Below.refl _ _)
              | exact HKP.out _ (Below.refl _ _).drew
              | (go_split_ands; exact HKP.out _ (below_self (by assumption) (by assumption)))
              | (go_split_ands; exact HKP.out _ (Below.drew (by assumption)))
              | (go_split_ands; exact HKP.out _ (by assumption))
              | fail))
            clear hK K
            try simp only [Act.put, List.setIfInBounds_toArray, List.set_cons_zero, List.set_cons_succ, List.getElem_toArray, List.getElem_cons_zero, List.getElem_cons_succ]
            refine wpAnyH_ready (rs := [8]) (by kernel_rfl) (by simp) ?_
            refine (AllReadyH.cons rfl (fun K hK => ?_) AllReadyH.nil)
            go_simp
            (first | (go_at_call 15; go_split_ands; refine (HEn.out _ (by assumption)).mono ?_; rintro e w8 ⟨v8, he8, ho8, hbw8⟩; rw [he8.out]; have HO8 := Lib.hid ho8; have HR8 := Lib.hid ho8.rd; clear he8 ho8) | (go_at_call 14; go_split_ands; refine (HRw.out _ _ (by assumption) (by first | exact HR8.out | exact HR8.out.below (Below.refl _ _).drew)).mono ?_; rintro e w9 ⟨rfl, hbw9⟩) | fail)
            refine hK.out _ _ ?_ (fun hHeld => ?_)
            · ((first
              | exact HKP.out _ (Below.refl _ _)
              | exact HKP.out _ (Below.refl _ _).drew
              | (go_split_ands; exact HKP.out _ (below_self (by assumption) (by assumption)))
              | (go_split_ands; exact HKP.out _ (Below.drew (by assumption)))
              | (go_split_ands; exact HKP.out _ (by assumption))
              | fail))
            clear hK K
            try simp only [Act.put, List.setIfInBounds_toArray, List.set_cons_zero, List.set_cons_succ, List.getElem_toArray, List.getElem_cons_zero, List.getElem_cons_succ]
            refine wpAnyH_take (i := 9) (v := ?_) rfl (by kernel_rfl) (by kernel_rfl) (by kernel_rfl) (fun _ _ _ h => h) (Or.inl ⟨by rfl, ?_⟩) (by assumption) ?_
            rotate_left
            · (intro w hSw; (try dsimp only at hSw); go_simp; try rfl)
            try simp only [Act.put, List.setIfInBounds_toArray, List.set_cons_zero, List.set_cons_succ, List.getElem_toArray, List.getElem_cons_zero, List.getElem_cons_succ]
            refine wpAnyH_take (i := 10) (v := ?_) rfl (by kernel_rfl) (by kernel_rfl) (by kernel_rfl) (fun _ _ _ h => h) (Or.inl ⟨by rfl, ?_⟩) (by assumption) ?_
            rotate_left
            · (intro w hSw; (try dsimp only at hSw); go_simp; try rfl)
            try simp only [Act.put, List.setIfInBounds_toArray, List.set_cons_zero, List.set_cons_succ, List.getElem_toArray, List.getElem_cons_zero, List.getElem_cons_succ]
            refine wpAnyH_done (by kernel_rfl) ?_ _
            go_split_ands
            have hbn : Below wr.heap.size wr w9 := by assumption
            have HB9 := Lib.hid (HBr2.out.trans (hbn.mono HBr2.out.size))
            clear hbn HKP HEn HRw
            go_wp2
            go_ret
            exact ⟨rfl, HB9.out⟩
      · have HR0 := Lib.hid hr0
        have HRB : Hid (rghtB l0 = false) := Lib.hid (by
          cases h : rghtB l0 with
          | false => rfl
          | true => exact absurd ((rght_iff l0).1 h) HR0.out)
        clear hr0
        go_wp2_with fail
        refine (ofd_bad a0 n0 c0 l0 w1 HE1.out (by have := HN0.out; omega) HZ0.out HR0.out HM1.out).mono ?_
        rintro e w2 ⟨rfl, hb⟩
        have HB2 := Lib.hid (HB1.out.trans (hb.mono HB1.out.size))
        have HE2 := Lib.hid (HE1.out.below hb)
        clear hb
        go_wp2_with fail
        refine (rright_any a0 n0 c0 l0 w2 HE2.out HN0.out (by omega) HZj.out).mono ?_
        rintro e w3 ⟨rfl, hb⟩
        rw [HRB.out]
        have HB3 := Lib.hid (HB2.out.trans (hb.mono HB2.out.size))
        clear hb
        go_wp2
        go_ret
        exact ⟨rfl, HB3.out⟩
end Go.Proofs.YtodcmhmankmaoaaGreat
