/-
  Texts put together: Drw, Drw2, Drw3.
-/
import Derived.Test.YtodcmhmankmaoaaGreatByt
import Derived.Test.YtodcmhmankmaoaaGreatJP
namespace Go.Proofs.YtodcmhmankmaoaaGreat
set_option linter.unusedSimpArgs false
set_option linter.unusedVariables false

theorem drawn_setCell (w : World) (a : Addr) (v : Value) : (w.setCell a v).drawn = w.drawn := by
  unfold World.setCell
  repeat' split
  all_goals rfl
theorem drawn_freeze (w : World) (a : Addr) (n : Nat) : (w.freeze a n).drawn = w.drawn := by
  unfold World.freeze
  repeat' split
  all_goals rfl
theorem drawn_ask {α : Type} : ∀ (a : Ask α) (w : World), w.drawn ≤ (w.ask a).2.drawn
  | .done a, w => Nat.le_refl _
  | .ask what range k, w => by
    unfold World.ask
    simp only
    split
    · exact drawn_ask (k 0) w
    · have := drawn_ask (k ((Question.extern what range).cut (w.tape w.drawn (Question.extern what range)))) { w with drawn := w.drawn + 1 }
      simp only at this
      omega
theorem drawn_sys (w : World) (c : Sys) : w.drawn ≤ (w.sys c).2.drawn := by
  have h := drawn_ask (Kernel.perform c w.os) w
  unfold World.sys
  split
  · exact Nat.le_refl _
  · rename_i heq
    rw [heq] at h
    exact h
theorem drawn_viewStore {p : Program} {w : World} {at_ : Addr} {u : TypeId} {k : Addr} {v : Value} {b : Bool} {w' : World} {l : List Addr} (h : w.viewStore p at_ u k v b = .ok (w', l)) : w'.drawn = w.drawn := by
  unfold World.viewStore at h
  simp only [bind, Except.bind, pure, Except.pure, throw, throwThe, MonadExceptOf.throw] at h
  repeat' split at h
  all_goals first
    | (cases h; done)
    | (cases h; rfl)
theorem drawn_farStore {p : Program} {w w' : World} {a : Addr} {v : Value} {b : Bool} {l : List Addr} (h : w.farStore p a v b = .ok (w', l)) : w'.drawn = w.drawn := by
  unfold World.farStore at h
  split at h
  · split at h
    · rename_i heq
      cases h
      exact drawn_viewStore heq
    · cases h
  · cases h
theorem drawn_run {α : Type} (p : Program) : ∀ (x : Sem α) (w : World) (v : α) (w' : World), x.run p w = .ok v w' → w.drawn ≤ w'.drawn
  | .pure a, w, v, w', h => by simp only [Sem.run, Result.ok.injEq] at h; rw [h.2]; exact Nat.le_refl _
  | .load m a k, w, v, w', h => by
    simp only [Sem.run] at h
    split at h
    · exact drawn_run p _ _ _ _ h
    · split at h
      · exact drawn_run p _ _ _ _ h
      · cases h
  | .store m a x k, w, v, w', h => by
    have hk := drawn_run p k
    have key : ∀ (h : (match w.cell? a with
        | some _ => if w.frozen? a then Result.halt (.unsupported (.unsafePointer "a write to bytes that a string shares")) w else k.run p (w.setCell a x)
        | none => match w.farStore p a x (m == Mode.atomic) with
          | .ok (w, _) => k.run p w
          | .error h => .halt h w) = .ok v w'), w.drawn ≤ w'.drawn := by
      intro h
      split at h
      · split at h
        · cases h
        · have := hk _ _ _ h
          rwa [drawn_setCell] at this
      · split at h
        · rename_i w2 l2 heq
          have := hk _ _ _ h
          rwa [drawn_farStore heq] at this
        · cases h
    cases x
    all_goals
      simp only [Sem.run] at h
      first
        | exact key h
        | exact absurd h (by simp)
  | .new o k, w, v, w', h => by
    simp only [Sem.run] at h
    have := drawn_run p _ _ _ _ h
    exact this
  | .shape r k, w, v, w', h => drawn_run p _ _ _ _ (by simpa only [Sem.run] using h)
  | .freeze a n k, w, v, w', h => by
    simp only [Sem.run] at h
    have := drawn_run p _ _ _ _ h
    rwa [drawn_freeze] at this
  | .frozen a k, w, v, w', h => drawn_run p _ _ _ _ (by simpa only [Sem.run] using h)
  | .getObj r k, w, v, w', h => by
    simp only [Sem.run] at h
    split at h
    · cases h
    · exact drawn_run p _ _ _ _ h
    · cases h
  | .setObj r o k, w, v, w', h => by
    simp only [Sem.run] at h
    split at h
    · cases h
    · have := drawn_run p _ _ _ _ h
      exact this
    · cases h
  | .choose q k, w, v, w', h => by
    simp only [Sem.run] at h
    split at h
    · exact drawn_run p _ _ _ _ h
    · have := drawn_run p _ _ _ _ h
      simp only at this
      omega
  | .sys c k, w, v, w', h => by
    simp only [Sem.run] at h
    have := drawn_run p _ _ _ _ h
    exact Nat.le_trans (drawn_sys w c) this
  | .program k, w, v, w', h => drawn_run p _ _ _ _ (by simpa only [Sem.run] using h)
  | .mark _ k, w, v, w', h => drawn_run p _ _ _ _ (by simpa only [Sem.run] using h)
  | .halt hh, w, v, w', h => by simp only [Sem.run] at h; cases h
end Go.Proofs.YtodcmhmankmaoaaGreat
namespace Go.Proofs.YtodcmhmankmaoaaGreat
open Go.RowKit
set_option linter.unusedSimpArgs false
set_option linter.unusedVariables false

/-- What lay in w lies there still, and no draw was taken back. -/
def Bel (w w' : World) : Prop := Below w.heap.size w w' ∧ w.drawn ≤ w'.drawn
theorem Bel.refl (w : World) : Bel w w := ⟨Below.refl _ _, Nat.le_refl _⟩
theorem Bel.trans {w w1 w2 : World} (h : Bel w w1) (k : Bel w1 w2) : Bel w w2 := ⟨below_self h.1 k.1, Nat.le_trans h.2 k.2⟩
theorem Bel.alloc {w w1 : World} (h : Bel w w1) (o : Obj) : Bel w (w1.alloc o) := ⟨h.1.alloc h.1.size _, h.2⟩
theorem Bel.drew {w w1 : World} (h : Bel w w1) : Bel w w1.drew := ⟨h.1.drew, Nat.le_trans h.2 (Nat.le_succ _)⟩
set_option maxHeartbeats 1000000 in
theorem indexfunc_drw (s : ByteArray) (w : World) : Calls Tryz.prog 135 #[.string s, .func (.func 98) #[] #[], .bool true] w fun e w' => e = .returned (.int .i64 (Lib.idxFunc oddR true s)) ∧ Bel w w' := by
  go_enter Tryz.func135, Tryz.ntmps135
  go_wp2
  go_loopg [] s.size (fun gf wx => ∃ pos : Nat, Hid (wx.heap[w.heap.size]? = some (.stringIter s pos)) ∧ Hid (Bel w wx) ∧ Hid (Lib.idxFuncFrom oddR true s gf pos = Lib.idxFunc oddR true s) ∧ Hid (s.size ≤ pos + gf))
  case atStart => exact ⟨0, Lib.hid (World.iter_heap w s 0), Lib.hid ⟨(Below.refl _ w).alloc (Nat.le_refl _) _, Nat.le_refl _⟩, Lib.hid rfl, Lib.hid (by omega)⟩
  case round =>
    obtain ⟨pos, HI, HB, HL, HF⟩ := hrel
    by_cases hps : pos < s.size
    · have hgk : gk = (gk - 1) + 1 := by have := HF.out; omega
      obtain ⟨n, hn⟩ : ∃ n, gk - 1 = n := ⟨_, rfl⟩
      rw [hn] at hgk
      subst hgk
      have hnx : ∀ ty, (Instr.next (.pointer (some ⟨w.heap.size, 0, none⟩)) true ty).run Tryz.prog wr = _ := fun ty => Lib.run_next_any_at wr w.heap.size s pos ty HI.out hps
      have hw := Lib.width_pos s pos
      obtain ⟨r, hr⟩ : ∃ r, (Utf8.decode s pos).1 = r := ⟨_, rfl⟩
      obtain ⟨k, hk⟩ : ∃ k, (Utf8.decode s pos).2 = k := ⟨_, rfl⟩
      have hl := HL.out
      simp only [Lib.idxFuncFrom, hps, if_true, hr, hk] at hl
      rw [hr, hk] at hnx
      rw [hk] at hw
      have hI2 := Lib.hid (Lib.iterAt_heap wr w.heap.size s pos (pos + k) HI.out)
      have hB2 : Hid (Bel w (wr.iterAt w.heap.size s (pos + k))) := Lib.hid ⟨Lib.below_iterAt HB.out.1 (k := w.heap.size) (Nat.le_refl _) s (pos + k), HB.out.2⟩
      have HF2 : Hid (s.size ≤ pos + k + n) := Lib.hid (by have := HF.out; omega)
      obtain ⟨W, hW⟩ : ∃ W, wr.iterAt w.heap.size s (pos + k) = W := ⟨_, rfl⟩
      rw [hW] at hnx hI2 hB2
      have hc := odd_any r W
      obtain ⟨T, hT⟩ : ∃ T, oddR r = T := ⟨_, rfl⟩
      rw [hT] at hc hl
      have HC := Lib.hid hc
      have HLL := Lib.hid hl
      clear hc hl HI HB HL HF hT hr hk hW hn hw hps
      cases T with
      | true =>
        go_wp2_with (go_at_call 98; refine HC.out.mono ?_; rintro e W' ⟨rfl, rfl⟩)
        go_ret
        exact ⟨by rw [← HLL.out]; rfl, hB2.out⟩
      | false =>
        go_wp2_with (go_at_call 98; refine HC.out.mono ?_; rintro e W' ⟨rfl, rfl⟩)
        go_roundg n
        case measure => omega
        case rel => exact ⟨pos + k, hI2, hB2, Lib.hid (by have := HLL.out; simpa using this), HF2⟩
    · have hnx : ∀ ty, (Instr.next (.pointer (some ⟨w.heap.size, 0, none⟩)) true ty).run Tryz.prog wr = _ := fun ty => Lib.run_next_end_at wr w.heap.size s pos ty HI.out hps
      have hl := HL.out
      rw [Lib.idxFuncFrom_end oddR true s gk pos hps] at hl
      have HLL := Lib.hid hl
      clear hl hps HI HL HF
      go_wp2
      go_ret
      exact ⟨by rw [← HLL.out]; rfl, HB.out⟩
end Go.Proofs.YtodcmhmankmaoaaGreat
namespace Go.Proofs.YtodcmhmankmaoaaGreat
open Go.RowKit
set_option linter.unusedSimpArgs false
set_option linter.unusedVariables false

theorem indexFunc_drw (s : ByteArray) (w : World) : Calls Tryz.prog 122 #[.string s, .func (.func 98) #[] #[]] w fun e w' => e = .returned (.int .i64 (Lib.idxFunc oddR true s)) ∧ Bel w w' := by
  have HC := Lib.hid (indexfunc_drw s w)
  obtain ⟨n, hn⟩ : ∃ n, Lib.idxFunc oddR true s = n := ⟨_, rfl⟩
  rw [hn] at HC ⊢
  clear hn
  go_enter Tryz.func122, Tryz.ntmps122
  go_wp2_with (go_at_call 135; refine HC.out.mono ?_; rintro e w1 ⟨rfl, hb⟩; have HB := Lib.hid hb; clear hb)
  go_ret
  exact ⟨rfl, HB.out⟩
theorem containsfunc_drw (s : ByteArray) (w : World) : Calls Tryz.prog 99 #[.string s, .func (.func 98) #[] #[]] w fun e w' => e = .returned (.bool (decide (0 ≤ Lib.idxFunc oddR true s))) ∧ Bel w w' := by
  have HC := Lib.hid (indexFunc_drw s w)
  obtain ⟨n, hn⟩ : ∃ n, Lib.idxFunc oddR true s = n := ⟨_, rfl⟩
  rw [hn] at HC ⊢
  clear hn
  go_enter Tryz.func99, Tryz.ntmps99
  go_wp2_with (go_at_call 122; refine HC.out.mono ?_; rintro e w1 ⟨rfl, hb⟩; have HB := Lib.hid hb; clear hb)
  go_ret
  exact ⟨rfl, HB.out⟩
theorem isname_drw (s : ByteArray) (w : World) : Calls Tryz.prog 79 #[.string s] w fun e w' => e = .returned (.bool (nmS s)) ∧ Bel w w' := by
  have cC := containsfunc_drw s w
  rw [idx_all] at cC
  have e := nmS_len s
  by_cases h1 : 1 ≤ s.size
  · by_cases h2 : s.size ≤ 16
    · have e2 : nmS s = s.data.toList.all okc := by rw [e]; simp [h1, h2]
      rw [e2]
      obtain ⟨B, hB⟩ : ∃ B, s.data.toList.all okc = B := ⟨_, rfl⟩
      rw [hB] at cC ⊢
      have k1 : (0 : Int) < (s.size : Int) := by omega
      have k2 : (s.size : Int) ≤ 16 := by omega
      clear e e2 hB h1 h2
      go_enter Tryz.func79, Tryz.ntmps79
      go_wp2_with (go_at_call 99; refine cC.mono ?_; rintro e w1 ⟨rfl, hb⟩; have HB := Lib.hid hb; clear hb)
      go_ret
      exact ⟨by simp, HB.out⟩
    · have e2 : nmS s = false := by rw [e]; simp [h2]
      rw [e2]
      have k1 : (0 : Int) < (s.size : Int) := by omega
      have k2 : ¬ (s.size : Int) ≤ 16 := by omega
      clear e e2 cC h1 h2
      go_enter Tryz.func79, Tryz.ntmps79
      go_wp2
      go_ret
      exact ⟨rfl, Bel.refl _⟩
  · have e2 : nmS s = false := by rw [e]; simp [h1]
    rw [e2]
    have k1 : ¬ (0 : Int) < (s.size : Int) := by omega
    clear e e2 cC h1
    go_enter Tryz.func79, Tryz.ntmps79
    go_wp2
    go_ret
    exact ⟨rfl, Bel.refl _⟩
theorem cut1_drw (R : List UInt8) (w : World) (hR : R.length ≤ 1000) (hm : ML w) : Calls Tryz.prog 78 #[.string (ofL R), .string { data := #[47] }] w fun e w' =>
    e = .returned (.tuple #[.string (ofL (Lib.cut R [47]).1), .string (ofL (Lib.cut R [47]).2.1), .bool (Lib.cut R [47]).2.2]) ∧ Bel w w' := by
  obtain ⟨m, hm⟩ := hm
  have := Tryz.strings_Cut (ofL R) { data := #[47] } m w (by rw [ofL_size]; omega) hm
  rw [ofL_data] at this
  refine this.mono ?_
  rintro e w' ⟨he, n, rfl⟩
  exact ⟨he, below_drewNg w n, by simp [World.drewN]⟩
section
variable {ops : Array Oper} {rest : List Oper} {o : Oper} {a : Act} {w : World} {Q : Exit → Act → World → Prop}
/-- 'append(s, x)' of one text, with the count of draws. -/
theorem wpList_app1D (hgd : o.guard = none) (s x : Operand) (t e : TypeId) (z : Value) (bytes : Nat) (ho : o.op = .call { callee := .builtin .append, args := #[s, x], argTypes := #[t, t] })
    (ht : Tryz.prog.underlying t = some (.slice e)) (hinfo : (Tryz.prog.info? e).map (fun i => (i.zero, i.size, i.bytes)) = some (some z, 1, bytes)) (hzs : z.cells.size = 1) (hby : bytes ≤ 100)
    (base : Nat) (v : Value) (vs : List Value) (hs : a.eval s = v) (hown : Own1 w base e v vs) (g : Nat) (u : Value) (hx : a.eval x = .slice (some ⟨g, 0, none⟩) 1 1) (hu : w.cell? ⟨g, 0, none⟩ = some u) (h1 : u.oneCell' = true)
    (hl : vs.length ≤ 1000000000) (hbase : base ≤ w.heap.size)
    (h : ∀ v' w', Own1 w' base e v' (vs ++ [u]) → Below base w w' → w.drawn ≤ w'.drawn → w.heap.size ≤ w'.heap.size → w.grownBy w' v.ownBlock → wpList Tryz.prog ops Q rest (a.put o.dst v') w') : wpList Tryz.prog ops Q (o :: rest) a w := by
  obtain ⟨i0, hi, hz0, hz1, hz2⟩ := info_parts hinfo
  obtain ⟨v', w', hr, q1, q2, _⟩ := run_append_own (w := w) base t o.type e i0 z 1 bytes ht hi hz0 hz1 hz2 hzs (by decide) v vs.length vs hown ⟨g, 0, none⟩ 1 1 [u] rfl (by
    intro j q hj
    match j, hj with
    | 0, hj => simp at hj; subst hj; simpa [Addr.add] using hu) (by intro q hq; simp at hq; subst hq; exact h1) (by unfold maxLen; omega) (Nat.le_trans (Nat.mul_le_mul (show vs.length + 1 ≤ 1000000001 by omega) hby) (by decide)) hbase
  refine wpList_value (by simp [Region.wanted, hgd]) v' w' ?_ (h v' w' ?_ ((Below.refl base w).grown q2 hbase (own1_from hown)) (drawn_run _ _ _ _ _ hr) q2.size q2)
  · unfold execOp
    simp only [ho, resolve, invoke, builtin, Sem.run_bind, Sem.run_pure, Result.andThen_ok, List.map_toArray, List.map_cons, List.map_nil, hs, hx, hr]
  · unfold Own1
    rw [List.length_append]
    exact q1
end
def CutD (p : ByteArray) (w : World) (e : Ending) (w' : World) : Prop := ∃ v, Hid (e = .returned (.tuple #[v, .bool (vld p)])) ∧ Own1 w' w.heap.size 9 v ((tx (nmL p)).map .string) ∧ Bel w w'
theorem cutD_no {p : ByteArray} (h : vld p = false) (w w' : World) (hb : Bel w w') : CutD p w (.returned (.tuple #[.slice none 0 0, .bool false])) w' := by
  refine ⟨.slice none 0 0, by rw [h]; rfl, ?_, hb⟩
  rw [nm_novld h]
  exact Own1.nil _ _ _
set_option maxHeartbeats 4000000 in
theorem cut_drw (p : ByteArray) (w : World) (hp : p.size ≤ 1000) (hm : ML w) : Calls Tryz.prog 54 #[.string p] w (CutD p w) := by
  by_cases hr : p = pth []
  · subst hr
    have q1 : (ByteArray.toList { data := #[47] } == ByteArray.toList { data := #[47] }) = true := by simp
    have e : pth [] = { data := #[47] } := rfl
    have hv := (pth_vld (ns := []) rfl)
    rw [e] at hv ⊢
    have HV := Lib.hid hv
    clear hv e hm hp
    go_enter Tryz.func54, Tryz.ntmps54
    go_wp2
    go_step3
    go_wp2
    rw [Exit.noGoto_ret]
    go_ret2
    refine ⟨.slice none 0 0, by rw [HV.out.1]; rfl, ?_, Bel.refl _⟩
    rw [HV.out.2]
    exact Own1.nil _ _ _
  · have q1 : (p.toList == [47]) = false := by
      rw [Lib.toList_data]
      simp only [beq_eq_false_iff_ne, ne_eq]
      intro h
      exact hr (data_inj (by rw [h]; rfl))
    have hd : p = ofL p.data.toList := (ofL_of p).symm
    obtain ⟨l, hl⟩ : ∃ l, p.data.toList = l := ⟨_, rfl⟩
    have cP := cutpre_any p w
    rw [hl] at cP
    have hvl : vld p = (nmsO l).isSome := by unfold vld; rw [hl]
    have hnl : nmL p = (nmsO l).getD [] := by unfold nmL; rw [hl]
    have hsz : l.length ≤ 1000 := by rw [← hl, ← Lib.size_eq]; exact hp
    have hpl : p = ofL l := by rw [← hl]; exact hd
    by_cases hpre : ∃ r, l = 47 :: r
    · obtain ⟨r, hr2⟩ := hpre
      subst hr2
      have hrne : r ≠ [] := by
        rintro rfl
        exact hr (by rw [hpl]; rfl)
      have e1 : Lib.hasPrefix (47 :: r) [47] = true := by simp [Lib.hasPrefix]
      have e2 : Lib.trimPrefix (47 :: r) [47] = r := by simp [Lib.trimPrefix, Lib.hasPrefix]
      rw [e1, e2] at cP
      have hO : nmsO (47 :: r) = if okN (spl r) then some (spl r) else none := by
        unfold nmsO
        simp only [if_true]
        rw [if_neg hrne]
      rw [hO] at hvl hnl
      obtain ⟨ps, hps⟩ : ∃ ps, spl r = ps := ⟨_, rfl⟩
      rw [hps] at hvl hnl
      have hpl0 : 0 < ps.length := by
        rw [← hps]
        exact List.length_pos_iff.2 (spl_ne r)
      have hno : okN ps = false → vld p = false := fun h => by rw [hvl, h]; rfl
      have hyes : okN ps = true → vld p = true ∧ nmL p = ps := fun h => by rw [hvl, hnl, h]; exact ⟨rfl, rfl⟩
      have HNO := Lib.hid hno
      have HYES := Lib.hid hyes
      have HPS := Lib.hid hps
      have HM := Lib.hid hm
      have hrl : r.length ≤ 1000 := by simp at hsz; omega
      clear hno hyes hps hm hO hvl hnl e1 e2 hrne hr hd hl hpl hp hsz
      go_enter Tryz.func54, Tryz.ntmps54
      go_wp2_with fail
      go_step3
      go_wp2_with fail
      refine cP.mono ?_
      rintro e w1 ⟨rfl, rfl⟩
      clear cP
      go_wp2_with fail
      go_step3
      go_wp2_with fail
      go_loopw [4, 5, 6] (fun names rest more wr => ∃ (k : Nat) (R : List UInt8) (a : Option Addr) (c : Nat) (b : Bool), k ≤ 8 ∧ k ≤ ps.length ∧ R.length ≤ 1000 ∧ names = .slice a k c ∧ rest = .string (ofL R) ∧ more = .bool b ∧ Hid (b = decide (k < ps.length)) ∧ Hid (k < ps.length → spl R = ps.drop k) ∧ Hid (∀ n ∈ ps.take k, nmB n = true) ∧ Hid (Own1 wr w.heap.size 9 (.slice a k c) ((tx (ps.take k)).map .string)) ∧ Hid (Bel w wr)) (fun names _ _ _ => 9 - sl names)
      case atStart => exact ⟨0, r, none, 0, true, by omega, by omega, hrl, rfl, rfl, rfl, Lib.hid (by simp [hpl0]), Lib.hid (fun _ => by rw [HPS.out]; rfl), Lib.hid (by simp), Lib.hid (by simpa [tx] using Own1.nil _ _ _), Lib.hid (Bel.refl _)⟩
      case round =>
        obtain ⟨k, R, a, c, b, hk8, hkl, hRl, rfl, rfl, rfl, hb, hR, hN, hO, hB⟩ := hrel
        obtain ⟨w3, rfl⟩ : ∃ w3 : World, w3 = wr := ⟨_, rfl⟩
        cases b with
        | false =>
          have hkk : k = ps.length := by
            have := hb.out
            simp only [Bool.false_eq, decide_eq_false_iff_not] at this
            omega
          subst hkk
          have hk0 : (0 : Int) < (ps.length : Int) := by omega
          have hN' := hN.out
          have hO' := hO.out
          rw [List.take_length] at hN' hO'
          have hok := okN_mk hN' hk8
          have HF := Lib.hid (HYES.out hok)
          have HO := Lib.hid hO'
          clear hN hN' hO hO' hok hb hR
          go_wp2
          rw [Exit.noGoto_ret]
          go_ret2
          refine ⟨_, by rw [HF.out.1]; rfl, ?_, hB.out⟩
          rw [HF.out.2]
          exact HO.out
        | true =>
          have hkk : k < ps.length := by
            have := hb.out
            simpa using this
          have hRs := hR.out hkk
          have hcs := cut_spl R
          have cC := cut1_drw R w3 hRl (HM.out.below hB.out.1)
          obtain ⟨h, hh⟩ : ∃ h, (Lib.cut R [47]).1 = h := ⟨_, rfl⟩
          obtain ⟨t, ht⟩ : ∃ t, (Lib.cut R [47]).2.1 = t := ⟨_, rfl⟩
          obtain ⟨m, hmm⟩ : ∃ m, (Lib.cut R [47]).2.2 = m := ⟨_, rfl⟩
          rw [hh, ht, hmm] at cC hcs
          have htl : t.length ≤ 1000 := by
            rw [← ht]
            unfold Lib.cut
            split
            · simp; omega
            · simp
          have hd : ps.drop k = h :: ps.drop (k + 1) := by
            have e0 := List.drop_eq_getElem_cons hkk
            have : ps[k] = h := by
              rw [hRs, e0] at hcs
              rcases hcs with ⟨_, q⟩ | ⟨_, q, _⟩
              · exact (List.cons.inj q).1
              · exact (List.cons.inj q).1
            rw [e0, this]
          have hbt : m = decide (k + 1 < ps.length) ∧ (k + 1 < ps.length → spl t = ps.drop (k + 1)) := by
            rw [hRs, hd] at hcs
            rcases hcs with ⟨q1, q⟩ | ⟨q1, q, _⟩
            · have e := (List.cons.inj q).2
              have hne : ps.drop (k + 1) ≠ [] := by rw [e]; exact spl_ne t
              have : k + 1 < ps.length := by
                apply Classical.byContradiction
                intro hc
                exact hne (List.drop_eq_nil_of_le (by omega))
              exact ⟨by rw [q1]; simp [this], fun _ => e.symm⟩
            · have e := (List.cons.inj q).2
              have : ¬ k + 1 < ps.length := by
                intro hc
                have := congrArg List.length e
                simp at this
                omega
              exact ⟨by rw [q1]; simp [this], fun hc => absurd hc this⟩
          have hhm : h ∈ ps := List.mem_of_mem_drop (by rw [hd]; simp)
          have htk : ps.take (k + 1) = ps.take k ++ [h] := by
            have e0 := List.drop_eq_getElem_cons hkk
            rw [hd] at e0
            have : ps[k] = h := ((List.cons.inj e0).1).symm
            rw [List.take_succ_eq_append_getElem hkk, this]
          have HBT := Lib.hid hbt
          have HHM := Lib.hid hhm
          have HTK := Lib.hid htk
          clear hcs hh ht hmm hRs hd hbt hhm htk hb hR
          go_wp2_with fail
          refine cC.mono ?_
          rintro e w4 ⟨rfl, hb4⟩
          have HB4 := Lib.hid (Bel.trans hB.out hb4)
          have HO4 := Lib.hid (hO.out.below hb4.1)
          have cN := isname_drw (ofL h) w4
          have hnB : nmS (ofL h) = nmB h := by unfold nmS; rw [ofL_data]
          rw [hnB] at cN
          obtain ⟨B, hBB⟩ : ∃ B, nmB h = B := ⟨_, rfl⟩
          rw [hBB] at cN
          have HBB := Lib.hid hBB
          clear hb4 cC hnB hBB hB hO
          go_wp2_with fail
          refine cN.mono ?_
          rintro e w5 ⟨rfl, hb5⟩
          have HB5 := Lib.hid (Bel.trans HB4.out hb5)
          have HO5 := Lib.hid (HO4.out.below hb5.1)
          clear hb5 cN HB4 HO4
          cases B with
          | false =>
            have hv := HNO.out (by
              apply Bool.eq_false_iff.2
              intro hc
              have := okN_all hc h HHM.out
              rw [HBB.out] at this
              cases this)
            have HV := Lib.hid hv
            clear hv
            go_wp2
            rw [Exit.noGoto_ret]
            go_ret2
            exact cutD_no HV.out _ _ HB5.out
          | true =>
            by_cases hk : k = 8
            · subst hk
              have hv := HNO.out (by
                apply Bool.eq_false_iff.2
                intro hc
                have := okN_len hc
                omega)
              have HV := Lib.hid hv
              clear hv
              go_wp2
              rw [Exit.noGoto_ret]
              go_ret2
              exact cutD_no HV.out _ _ HB5.out
            · have hk7 : k < 8 := by omega
              have k1 : ((k : Int) == 8) = false := by simp; omega
              have HLN : Hid (((tx (ps.take k)).map Value.string).length ≤ 1000000000) := Lib.hid (by simp [tx]; omega)
              have hz := HB5.out.1.size
              go_wp2_with (refine wpList_app1D rfl _ _ 34 9 _ 16 rfl Tryz.underlying34 infoStr rfl (by omega) w.heap.size _ ((tx (ps.take k)).map .string) rfl (HO5.out.below ((Below.refl _ _).alloc (Nat.le_refl _) _)) w5.heap.size (.string (ofL h)) rfl ?hu rfl HLN.out (by simp; omega) ?_)
              case hu => simp [go_sem]
              intro v6 w6 ho6 hb6 hd6 hz6 hg6
              have ho7 : Own1 w6 w.heap.size 9 v6 ((tx (ps.take (k + 1))).map Value.string) := by
                rw [HTK.out]
                simpa [tx] using ho6
              obtain ⟨a6, c6, e6⟩ := ho7.slice
              have hl6 : ((tx (ps.take (k + 1))).map Value.string).length = k + 1 := by simp [tx]; omega
              rw [hl6] at e6
              subst e6
              have HO7 := Lib.hid ho7
              have HB7 : Hid (Bel w w6) := Lib.hid ⟨HB5.out.1.trans (((Below.refl w5.heap.size w5).alloc (Nat.le_refl _) _ |>.mono hz).trans hb6), Nat.le_trans HB5.out.2 hd6⟩
              have HN7 : Hid (∀ n ∈ ps.take (k + 1), nmB n = true) := Lib.hid (by
                rw [HTK.out]
                intro n hn
                rcases List.mem_append.1 hn with q | q
                · exact hN.out n q
                · rw [List.mem_singleton.1 q]; exact HBB.out)
              clear ho6 ho7 hb6 hd6 hz6 hg6 hl6 HO5 HB5 hN
              go_wp2
              go_roundw
              case rel => exact ⟨k + 1, t, a6, c6, m, by omega, by omega, htl, rfl, rfl, rfl, Lib.hid HBT.out.1, Lib.hid HBT.out.2, HN7, HO7, HB7⟩
              case measure => simp [sl]; omega
    · have e1 : Lib.hasPrefix l [47] = false := by
        unfold Lib.hasPrefix
        cases l with
        | nil => rfl
        | cons c r =>
          by_cases hc : c = 47
          · exact absurd ⟨r, by rw [hc]⟩ hpre
          · simp [List.isPrefixOf, Ne.symm hc]
      rw [e1] at cP
      have hv : vld p = false := by
        rw [hvl]
        unfold nmsO
        cases l with
        | nil => rfl
        | cons c r =>
          by_cases hc : c = 47
          · exact absurd ⟨r, by rw [hc]⟩ hpre
          · simp [hc]
      have HV := Lib.hid hv
      clear hv e1 hpre hm hvl hnl hr hd hl hpl hp hsz
      go_enter Tryz.func54, Tryz.ntmps54
      go_wp2_with fail
      go_step3
      go_wp2_with fail
      refine cP.mono ?_
      rintro e w1 ⟨rfl, rfl⟩
      clear cP
      go_wp2_with fail
      go_step3
      go_wp2_with fail
      go_loopw [4, 5, 6] (fun names rest more wr => names = .slice none 0 0 ∧ more = .bool false ∧ w = wr) (fun names _ _ _ => 9 - sl names)
      case atStart => exact ⟨rfl, rfl, rfl⟩
      case round =>
        obtain ⟨rfl, rfl, rfl⟩ := hrel
        go_wp2
        rw [Exit.noGoto_ret]
        go_ret2
        exact cutD_no HV.out _ _ (Bel.refl _)
set_option maxHeartbeats 1000000 in
theorem less_drw (p q : ByteArray) (w : World) (hp : p.size ≤ 1000) (hq : q.size ≤ 1000) (hm : ML w) : Calls Tryz.prog 29 #[.string p, .string q] w fun e w' => e = .returned (.bool (lsr p q)) ∧ Bel w w' := by
  have cP := cut_drw p w hp hm
  have cQ := fun w' (hb : Bel w w') => cut_drw q w' hq (hm.below hb.1)
  have eL : lsr p q = (vld p && vld q && ltN (nmL p) (nmL q)) := rfl
  obtain ⟨A, hA⟩ : ∃ A, vld p = A := ⟨_, rfl⟩
  obtain ⟨B, hB⟩ : ∃ B, vld q = B := ⟨_, rfl⟩
  rw [eL, hA, hB]
  have HA := Lib.hid hA
  have HB := Lib.hid hB
  have hz : (decide (cmpN (nmL p) (nmL q) < 0)) = ltN (nmL p) (nmL q) := by
    rw [Bool.eq_iff_iff, decide_eq_true_eq]; exact cmpN_lt _ _
  obtain ⟨Z, hZ⟩ : ∃ Z, cmpN (nmL p) (nmL q) = Z := ⟨_, rfl⟩
  rw [hZ] at hz
  rw [← hz]
  have HZ := Lib.hid hZ
  clear eL hA hB hz hZ hm hp hq
  cases A <;> cases B
  all_goals
    go_enter Tryz.func29, Tryz.ntmps29
    go_wp2_with fail
    refine cP.mono ?_
    rintro e w1 ⟨v, he, ho, hb⟩
    rw [HA.out] at he
    subst he
    have cQ1 := cQ w1 hb
    have HO1 := Lib.hid ho
    have HB1 := Lib.hid hb
    clear ho hb cP cQ
    go_wp2_with fail
    refine cQ1.mono ?_
    rintro e w2 ⟨v2, he, ho, hb⟩
    rw [HB.out] at he
    subst he
    have HB2 := Lib.hid (Bel.trans HB1.out hb)
    have ho1 := HO1.out.below hb.1
  · clear ho ho1 hb cQ1 HO1
    go_wp2
    go_ret
    exact ⟨rfl, HB2.out⟩
  · clear ho ho1 hb cQ1 HO1
    go_wp2
    go_ret
    exact ⟨rfl, HB2.out⟩
  · clear ho ho1 hb cQ1 HO1
    go_wp2
    go_ret
    exact ⟨rfl, HB2.out⟩
  · obtain ⟨a1, c1, rfl, hs1, _⟩ := cut_srd (w := w) ho1
    obtain ⟨a2, c2, rfl, hs2, _⟩ := cut_srd ho
    have cC := compare_any a1 a2 c1 c2 (nmL p) (nmL q) w2 hs1 hs2
    rw [HZ.out] at cC
    clear ho ho1 hb cQ1 HO1 hs1 hs2
    go_wp2_with fail
    refine cC.mono ?_
    rintro e w3 ⟨rfl, rfl⟩
    clear cC
    go_wp2
    go_ret
    exact ⟨by simp, HB2.out⟩
end Go.Proofs.YtodcmhmankmaoaaGreat
