/-
 The document's directory: a command that creates.
-/
import Derived.Test.YtodcmhmankmaoaaGreatRd6
namespace Go.Proofs.YtodcmhmankmaoaaGreat
open Go.RowKit
set_option linter.unusedSimpArgs false
set_option linter.unusedVariables false
set_option maxRecDepth 100000

/-- What a command is answered by the document, and leaves. -/
def RApp (R : Rep × List E3) (w : World) (base r : Nat) (T : TypeId) (cs : List Value) (v0 : Value) (e : Ending) (w' : World) : Prop := RepP R.1 w e w' ∧ RDP w base r T cs v0 R.2 w'
theorem RDP.same {w w' : World} {base r : Nat} {T : TypeId} {cs : List Value} {v0 : Value} {l : List E3} (h : RD w base r T cs v0 l) (hb : Below w.heap.size w w') : RDP w base r T cs v0 l w' :=
 ⟨⟨v0, ⟨h.bk.below hb, h.own.below hb, h.lt⟩, fun q hq => .inl hq⟩, (Fr.ofBelow hb).mono fun j hj q => absurd hj (Nat.not_lt.2 q)⟩
theorem RD.below {w w' : World} {base r : Nat} {T : TypeId} {cs : List Value} {v0 : Value} {l : List E3} (h : RD w base r T cs v0 l) (hb : Below w.heap.size w w') : RD w' base r T cs v0 l := ⟨h.bk.below hb, h.own.below hb, h.lt⟩
theorem RApp.bad {n : Int} {l : List E3} {w w' : World} {base r : Nat} {T : TypeId} {cs : List Value} {v0 : Value} (h : RD w base r T cs v0 l) (hb : Below w.heap.size w w') (v : Value) (hv : v = repV (bad n) (.slice none 0 0)) : RApp (bad n, l) w base r T cs v0 (.returned v) w' := by
 subst hv
 exact ⟨RepP.no _ rfl _ _, RDP.same h hb⟩
/-- The boxes stay where other blocks turn. -/
theorem cell_same {w w' : World} {k : Nat} (h : w'.heap[k]? = w.heap[k]?) (j : Nat) : w'.cell? ⟨k, j, none⟩ = w.cell? ⟨k, j, none⟩ ∧ w'.frozen? ⟨k, j, none⟩ = w.frozen? ⟨k, j, none⟩ := by
 constructor
 ·simp only [World.cell?, h]
 ·simp only [World.frozen?, h]
theorem RDP.after {w w2 w3 w4 : World} {base r b : Nat} {T : TypeId} {cs : List Value} {v0 : Value} {l l' : List E3} (h0 : RD w base r T cs v0 l) (hbw : base ≤ w.heap.size) (hb : Below w.heap.size w w2) (h : RDP w2 base r T cs v0 l' w3) (h4 : Fr (fun k => k = b) w3 w4) (hb1 : w.heap.size ≤ b) (hb2 : b < w2.heap.size) : RDP w base r T cs v0 l' w4 := by
 obtain ⟨v', hv, hn⟩ := h.ex
 have hlt := h0.lt
 refine ⟨⟨v', ⟨h4.bk hv.bk (by omega), h4.own hv.own (fun q hq => ?_), hv.lt⟩, fun q hq => ?_⟩, ?_⟩
 ·rcases hn q hq with e | e
  ·have := (h0.own.blk q e).1; omega
  ·omega
 ·rcases hn q hq with e | e
  ·exact .inl e
  ·exact .inr (Nat.le_trans hb.size e)
 ·refine Fr.trans (S := fun k => w.heap.size ≤ k) (T := fun k => k = r ∨ v0.ownBlock = some k ∨ k = b) (Fr.ofBelow hb) ?_ (fun j hj q => ?_)
  ·exact Fr.trans h.fr h4 (fun j hj q => by rcases q with (q | q) | q; exact .inl q; exact .inr (.inl q); exact .inr (.inr q))
  ·rcases q with q | q | q | q
   ·exact absurd hj (Nat.not_lt.2 q)
   ·exact .inl q
   ·exact .inr q
   ·omega
theorem fr4 (w : World) (b : Nat) (x y z u : Value) : Fr (fun k => k = b) w ((((w.setCell ⟨b, 0, none⟩ x).setCell ⟨b, 1, none⟩ y).setCell ⟨b, 2, none⟩ z).setCell ⟨b, 3, none⟩ u) :=
 (((Fr.set w ⟨b, 0, none⟩ x).trans (Fr.set _ ⟨b, 1, none⟩ y) (U := fun k => k = b) (fun j _ q => q.elim id id)).trans (Fr.set _ ⟨b, 2, none⟩ z) (U := fun k => k = b) (fun j _ q => q.elim id id)).trans (Fr.set _ ⟨b, 3, none⟩ u) (fun j _ q => q.elim id id)
set_option maxHeartbeats 4000000 in
theorem rapply_create {w : World} {base r : Nat} {T : TypeId} {cs : List Value} {v0 : Value} {l : List E3} (h : RD w base r T cs v0 l) (hbw : base ≤ w.heap.size) (hl : l.length ≤ 900) (hR : RightD l) (hz : ∀ x ∈ l, x.1.size ≤ 1000) (cl sq : Int) (p v : ByteArray) (ver a b : Int) (hp : p.size ≤ 1000) :
  Calls Tryz.prog 11 #[.pointer (some ⟨r, 0, none⟩), cmdV cl sq 1 p v ver a b] w (RApp (appD l 1 p v ver) w base r T cs v0) := by
 obtain ⟨X, hX⟩ : ∃ X, box2 w cl sq 1 p v ver a b = X := ⟨_, rfl⟩
 have HB : Hid (Below w.heap.size w X) := Lib.hid (by rw [← hX]; exact box2_below ..)
 have HBX : Hid (BX w.heap.size cl sq 1 p v ver a b X) := Lib.hid (by rw [← hX]; exact BX.mk0 ..)
 have HV := Lib.hid (rvalid_any p X hp)
 have HRD := Lib.hid h
 have HRt := Lib.hid hR
 have HP := Lib.hid hp
 have c2 := HBX.out.c.2.2.1
 have c3 := HBX.out.c.2.2.2.1
 obtain ⟨V, hV⟩ : ∃ q, vld p = q := ⟨_, rfl⟩
 rw [hV] at HV
 have HVe := Lib.hid hV
 clear h hV hR
 go_enter Tryz.func11, Tryz.ntmps11
 go_wp2_with fail
 try rw [hX]
 clear hX
 refine HV.out.mono ?_
 rintro e w1 ⟨rfl, hb⟩
 have HB1 := Lib.hid (HB.out.trans (hb.mono HB.out.size))
 have HBX1 := Lib.hid (HBX.out.below hb)
 clear hb HB HBX HV c2 c3
 have c2 := HBX1.out.c.2.2.1
 have c3 := HBX1.out.c.2.2.2.1
 have c4 := HBX1.out.c.2.2.2.2.1
 obtain ⟨r0, r1, r2, r3⟩ := HBX1.out.r
 obtain ⟨f0, f1⟩ := HBX1.out.f
 have z2 := HBX1.out.z
 cases V with
 | false =>
  have HAp : Hid (appD l 1 p v ver = (bad 1, l)) := Lib.hid (by unfold appD rgt; rw [HVe.out]; rfl)
  go_wp2
  refine bodyPost_ret (v := repV (bad 1) (.slice none 0 0)) (by simp [results, Tryz.results11, go_sem, bad, r0, r1, r2, r3, f1, show w.heap.size + 1 < w1.heap.size by omega]) rfl ?_
  rw [HAp.out]
  exact RApp.bad HRD.out (below4 HB1.out _ _ _ _) _ rfl
 | true =>
  by_cases hv64 : 64 < v.size
  ·have v1 : (64 : Int) < (v.size : Int) := by omega
   have v2 : decide ((64 : Int) < (v.size : Int)) = true := decide_eq_true v1
   have HAp : Hid (appD l 1 p v ver = (bad 1, l)) := Lib.hid (by unfold appD rgt; rw [HVe.out]; simp; omega)
   go_wp2
   refine bodyPost_ret (v := repV (bad 1) (.slice none 0 0)) (by simp [results, Tryz.results11, go_sem, bad, r0, r1, r2, r3, f1, show w.heap.size + 1 < w1.heap.size by omega]) rfl ?_
   rw [HAp.out]
   exact RApp.bad HRD.out (below4 HB1.out _ _ _ _) _ rfl
  ·have v1 : ¬ (64 : Int) < (v.size : Int) := by omega
   have v2 : decide ((64 : Int) < (v.size : Int)) = false := decide_eq_false v1
   have HAp : Hid (appD l 1 p v ver = crD l p v) := Lib.hid (by unfold appD rgt; rw [HVe.out]; simp; omega)
   obtain ⟨a0, c0, e0⟩ := HRD.out.own.slice
   obtain ⟨n0, hn0⟩ : ∃ q, l.length = q := ⟨_, rfl⟩
   rw [hn0] at e0
   subst e0
   have HR1 := Lib.hid (HRD.out.below HB1.out)
   have HF := Lib.hid (rfind_any r a0 n0 c0 l p w1 (HR1.out.bk.cell 0) HR1.out.own.rd hn0.symm (by omega))
   have HT := Lib.hid (rthere_any r a0 n0 c0 l p w1 (HR1.out.bk.cell 0) HR1.out.own.rd hn0.symm (by omega))
   have HN0 := Lib.hid hn0.symm
   have hn900 : n0 ≤ 900 := by omega
   clear hn0 hv64
   go_wp2_with fail
   refine HF.out.mono ?_
   rintro e w2 ⟨rfl, rfl⟩
   clear HF
   go_wp2_with fail
   refine HT.out.mono ?_
   rintro e w2 ⟨rfl, rfl⟩
   obtain ⟨t0, ht0⟩ : ∃ q, thrD l p = q := ⟨_, rfl⟩
   rw [ht0]
   have HT0 := Lib.hid ht0
   clear ht0 HT
   cases t0 with
   | true =>
    have HAp2 : Hid (appD l 1 p v ver = (bad 3, l)) := Lib.hid (by rw [HAp.out]; unfold crD; rw [if_pos HT0.out])
    go_wp2
    refine bodyPost_ret (v := repV (bad 3) (.slice none 0 0)) (by simp [results, Tryz.results11, go_sem, bad, r0, r1, r2, r3, f1, show w.heap.size + 1 < w1.heap.size by omega]) rfl ?_
    rw [HAp2.out]
    exact RApp.bad HRD.out (below4 HB1.out _ _ _ _) _ rfl
   | false =>
    have HPa := Lib.hid (rparent_any p w1 hp)
    clear c2 c4 r0 r1 r2 r3 f0 f1 z2 hp v1 v2
    go_wp2_with fail
    refine HPa.out.mono ?_
    rintro e w2 ⟨rfl, hb⟩
    have HB2 := Lib.hid (HB1.out.trans (hb.mono HB1.out.size))
    have HBX2 := Lib.hid (HBX1.out.below hb)
    have HR2 := Lib.hid (HR1.out.below hb)
    have HT := Lib.hid (rthere_any r a0 n0 c0 l (par p) w2 (HR2.out.bk.cell 0) HR2.out.own.rd HN0.out (by omega))
    clear hb HB1 HBX1 HR1 HPa c3
    go_wp2_with fail
    refine HT.out.mono ?_
    rintro e w3 ⟨rfl, rfl⟩
    obtain ⟨t1, ht1⟩ : ∃ q, thrD l (par p) = q := ⟨_, rfl⟩
    rw [ht1]
    have HT1 := Lib.hid ht1
    clear ht1 HT
    obtain ⟨r0, r1, r2, r3⟩ := HBX2.out.r
    obtain ⟨f0, f1⟩ := HBX2.out.f
    have z2 := HBX2.out.z
    cases t1 with
    | false =>
     have HAp2 : Hid (appD l 1 p v ver = (bad 2, l)) := Lib.hid (by rw [HAp.out]; unfold crD; rw [if_neg (by rw [HT0.out]; simp), if_neg (by rw [HT1.out]; simp)])
     go_wp2
     refine bodyPost_ret (v := repV (bad 2) (.slice none 0 0)) (by simp [results, Tryz.results11, go_sem, bad, r0, r1, r2, r3, f1, show w.heap.size + 1 < w2.heap.size by omega]) rfl ?_
     rw [HAp2.out]
     exact RApp.bad HRD.out (below4 HB2.out _ _ _ _) _ rfl
    | true =>
     have c3 := HBX2.out.c.2.2.2.1
     have c4 := HBX2.out.c.2.2.2.2.1
     have HAp2 : Hid (appD l 1 p v ver = (⟨0, { data := #[] }, 1, []⟩, putD l p v 1)) := Lib.hid (by rw [HAp.out]; unfold crD; rw [if_neg (by rw [HT0.out]; simp), if_pos HT1.out])
     have HPut := Lib.hid (rput_any HR2.out (Nat.le_trans hbw HB2.out.size) (by omega) HRt.out.rise HRt.out.keys p v 1 (okP_ne HVe.out (fun e => by have q := HT0.out; rw [e] at q; simp [thrD] at q)) (fun x hx e => by have q := HT0.out; rw [thrD_iff.2 (.inr ⟨x, hx, e⟩)] at q; cases q) hz HP.out)
     go_wp2_with fail
     refine HPut.out.mono ?_
     rintro e w3 ⟨he, hr⟩
     rw [he.out]
     have hlt := HRD.out.lt
     have hk : w3.heap[w.heap.size + 1]? = w2.heap[w.heap.size + 1]? := hr.out.fr.block _ (by omega) (fun q => by
      rcases q with q | q
      ·omega
      ·have := (HRD.out.own.blk _ q).1; omega)
     have s0 := (cell_same hk 0).1.trans r0
     have s1 := (cell_same hk 1).1.trans r1
     have s2 := (cell_same hk 2).1.trans r2
     have s3 := (cell_same hk 3).1.trans r3
     have g1 : ∀ o, w3.frozen? ⟨w.heap.size + 1, o, none⟩ = false := fun o => (cell_same hk o).2.trans (f1 o)
     have hz3 : w.heap.size + 1 < w3.heap.size := by have := hr.out.fr.size; omega
     have HR3 := hr
     have HZ2 : Hid (w.heap.size + 1 < w2.heap.size) := Lib.hid (by omega)
     clear he hr hk r0 r1 r2 r3 f0 f1 z2 c3 c4 HPut hlt
     go_wp2
     refine bodyPost_ret (v := repV ⟨0, { data := #[] }, 1, []⟩ (.slice none 0 0)) (by simp [results, Tryz.results11, go_sem, bad, s0, s1, s2, s3, g1, hz3]) rfl ?_
     rw [HAp2.out]
     exact ⟨RepP.no _ rfl _ _, RDP.after HRD.out hbw HB2.out HR3.out (fr4 _ _ _ _ _ _) (Nat.le_succ _) HZ2.out⟩
end Go.Proofs.YtodcmhmankmaoaaGreat
