/-
  The walk of DiskOf.
-/
import Derived.Test.YtlanmgdekkblcaaDskS
namespace Go.Proofs.Ytlanmgdekkblcaa
open Go.RowKit
set_option linter.unusedSimpArgs false
set_option linter.unusedVariables false

/-- Another disk's blocks are let be. -/
theorem DAt.other {w w' : World} {B p q : Nat} {v u : Value} {bs : List Int} {last : Nat} (h : DAt w B p v bs last) (hf : Foot w w' q u) (h1 : p ≠ q) (h2 : ∀ k, u.ownBlock = some k → k ≠ p) (h3 : ∀ k, v.ownBlock = some k → k ≠ q) (h4 : ∀ k j, v.ownBlock = some k → u.ownBlock = some j → k ≠ j) : DAt w' B p v bs last :=
  h.keep hf.size (hf.block p h.lt h1 (fun e => h2 p e.symm rfl)) (fun k hk => hf.block k (h.own.lt k hk) (h3 k hk) (fun e => h4 k k hk e.symm rfl))
section
variable {ops : Array Oper} {o : Oper} {a : Act} {w : World} {K : Act → World → Prop} {Q : Exit → Act → World → Prop}
theorem step_text (hw : Region.wanted o (yielded ops a.tmps) = true) (src dst : TypeId) (x : Operand)
    (ho : o.op = .convert src dst x) (e : TypeId) (hs : Try.prog.underlying src = some (.slice e)) (he : Try.prog.underlying e = some (.int .u8)) (hd : Try.prog.underlying dst = some .string) (v : Value) (xs : List Int) (hx : a.eval x = v) (hb : Bt w v xs)
    (h : K (a.put o.dst (.string (txt xs))) w) : if Region.wanted o (yielded ops a.tmps) = true then Oper.wp Try.prog o a w K Q else K (a.put o.dst undef) w := by
  rw [if_pos hw]
  obtain ⟨ad, cap, rfl, h1, h2⟩ := hb.row
  unfold Oper.wp execOp
  simp only [ho, hx, run_text h1 h2 hs he hd, Sem.run_bind, Sem.run_pure, Result.andThen_ok]
  exact h
end
/-- A round of holding a body against another one. -/
theorem body_cell2 {w0 wr : World} {L : List (List Int)} {n : Nat} {a5 : Option Addr} {c5 : Nat} (hR : AllRow w0 (.slice a5 n c5) L) (hB : Below w0.heap.size w0 wr) (k : Nat) (hk : k < L.length) (t : ByteArray) (ht0 : txt (L.getD k []) = t) :
    ∃ g xv, a5 = some ⟨g, 0, none⟩ ∧ wr.cell? ⟨g, k, none⟩ = some xv ∧ (convert 27 9 xv).run Try.prog wr.drew = .ok (.string t) wr.drew ∧ (convert 27 9 xv).run Try.prog wr = .ok (.string t) wr := by
  obtain ⟨g, c, xv, e, hg, hc, ht⟩ := hR.cell k hk
  simp only [Value.slice.injEq] at e
  obtain ⟨rfl, _, rfl⟩ := e
  have ht1 := ht.below hB
  have q1 := ht1.text
  have q2 := (ht1.below (Below.refl _ _).drew).text
  rw [ht0] at q1 q2
  exact ⟨g, xv, rfl, (hB.cell (p := ⟨g, k, none⟩) hg).trans hc, q2, q1⟩
set_option maxHeartbeats 1000000 in
theorem of_far (b : ByteArray) (a : Option Addr) (cap : Nat) (ss : List ByteArray) (w : World) (hs : SRd w a ss) (hb : b.size ≤ 9223372036854775807) (hf : (500 : Int) < b.size ∨ (60 : Int) < ss.length) :
    Calls Try.prog 7 #[.string b, .slice a ss.length cap] w fun e w' => e = .returned (.bool true) ∧ Below w.heap.size w w' := by
  have hl := hs.1
  by_cases t1 : (500 : Int) < b.size
  · clear hf
    go_enter Try.func7, Try.ntmps7
    go_wp2_with (go_at_call 8; refine (works_any _).mono ?_; rintro e w1 ⟨rfl, hb⟩; have HB := Lib.hid hb; clear hb)
    go_ret
    exact ⟨rfl, HB.out⟩
  · have t2 : (60 : Int) < ss.length := by
      rcases hf with h | h
      · exact absurd h t1
      · exact h
    have t3 : decide ((500 : Int) < b.size) = false := by simpa using t1
    clear hf
    go_enter Try.func7, Try.ntmps7
    go_wp2_with (go_at_call 8; refine (works_any _).mono ?_; rintro e w1 ⟨rfl, hb⟩; have HB := Lib.hid hb; clear hb)
    go_ret
    exact ⟨rfl, HB.out⟩
set_option maxHeartbeats 4000000 in
theorem of_near (b : ByteArray) (a : Option Addr) (cap : Nat) (ss : List ByteArray) (w : World) (hs : SRd w a ss) (hz : ∀ s ∈ ss, s.size ≤ maxLen) (hb0 : b.size ≤ 9223372036854775807) (hf1 : ¬ (500 : Int) < b.size) (hf2 : ¬ (60 : Int) < ss.length) :
    Calls Try.prog 7 #[.string b, .slice a ss.length cap] w fun e w' => e = .returned (.bool true) ∧ Below w.heap.size w w' := by
  have HS := Lib.hid hs
  have HZ := Lib.hid hz
  have hl := hs.1
  have t1 : decide ((500 : Int) < b.size) = false := by simpa using hf1
  have t2 : decide ((60 : Int) < ss.length) = false := by simpa using hf2
  obtain ⟨F, hF⟩ : ∃ F, byt b = F := ⟨_, rfl⟩
  have hFl : F.length ≤ 500 := by rw [← hF, byt_length]; omega
  have hFr : ∀ x ∈ F, 0 ≤ x ∧ x ≤ 255 := by rw [← hF]; exact byt_range b
  have HF := Lib.hid hF
  have HFR := Lib.hid hFr
  have HFL : Hid (F.length ≤ 1000000000) := Lib.hid (by omega)
  clear hs hz hF hFr
  go_enter Try.func7, Try.ntmps7
  go_wp2_with fail
  refine (works_any _).mono ?_
  rintro e w1 ⟨rfl, hb⟩
  have HB1 := Lib.hid hb
  clear hb
  go_wp2_with (refine wpList_bytes rfl 9 27 _ rfl 5 Try.underlying9 Try.underlying27 Try.underlying5 b rfl hb0 ?_)
  intro v2 w2 hbt hz2 hb2
  rw [HF.out] at hbt
  have HBT := Lib.hid hbt
  have HB2 := Lib.hid (below_self HB1.out hb2)
  clear hbt hz2 hb2 HB1
  go_wp2_with fail
  refine (dof_any _ F _ HBT.out HFL.out).mono ?_
  rintro e w3 ⟨p, v0, he, hd, hb⟩
  subst he
  have HD3 : Hid (DAt w3 w.heap.size p v0 (F ++ joinN ((ss.take 0).map byt)) F.length) := Lib.hid (by
    have e : F ++ joinN ((ss.take 0).map byt) = F := by simp [joinN]
    rw [e]
    exact ⟨hd.lt, Nat.le_trans HB2.out.size hd.low, hd.c0, hd.c1, hd.f0, hd.f1, hd.own.le HB2.out.size, hd.far, hd.blk⟩)
  have HB3 := Lib.hid (below_self HB2.out hb)
  clear hd hb HB2 HBT
  obtain ⟨f, hfl⟩ : ∃ f, F.length = f := ⟨_, rfl⟩
  rw [hfl] at HD3 hFl
  have HFF := Lib.hid hfl
  clear hfl
  go_wp2_with fail
  go_loopw [7] (fun i wr => ∃ (k : Nat) (v : Value), k ≤ ss.length ∧ i = .int .i64 k ∧ Hid (DAt wr w.heap.size p v (F ++ joinN ((ss.take k).map byt)) f) ∧ Hid (Below w.heap.size w wr) ∧ Hid (Short (ss.take k))) (fun i _ => ss.length - (intOf i).toNat)
  case atStart => exact ⟨0, v0, by omega, rfl, HD3, HB3, Lib.hid (by simp [Short])⟩
  case round =>
    clear HD3 HB3
    obtain ⟨k, v, hk, rfl, hD, hB, hSh⟩ := hrel
    obtain ⟨w3, rfl⟩ : ∃ w3 : World, w3 = wr := ⟨_, rfl⟩
    by_cases hlt : k < ss.length
    · obtain ⟨s, hsk⟩ : ∃ s, ss.getD k ByteArray.empty = s := ⟨_, rfl⟩
      obtain ⟨g6, off, rfl, hg6, hc6⟩ := HS.out.cell k hlt
      rw [hsk] at hc6
      have hc3 := (hB.out.cell (p := ⟨g6, off + k, none⟩) hg6).trans hc6
      have hkn : (k : Int) < (ss.length : Int) := by omega
      have hsz : s.size ≤ 9223372036854775807 := by
        have := HZ.out s (by rw [← hsk]; simp only [List.getD, List.getElem?_eq_getElem hlt, Option.getD_some]; exact List.getElem_mem hlt)
        unfold maxLen at this; exact this
      clear hc6
      by_cases q : (60 : Int) < s.size
      · go_wp2_with fail
        go_ret
        exact ⟨rfl, hB.out⟩
      · have hs60 : s.size ≤ 60 := by omega
        have hsn := take_map_snoc ss k hlt
        rw [hsk] at hsn
        have HSN : Hid (F ++ joinN ((ss.take k).map byt) ++ frm (byt s) = F ++ joinN ((ss.take (k + 1)).map byt)) := Lib.hid (by rw [hsn, joinN_snoc, List.append_assoc])
        have HSH := Lib.hid (short_snoc hSh.out hlt (by rw [hsk]; exact hs60))
        have hJl : Hid ((F ++ joinN ((ss.take k).map byt)).length ≤ 1000000000) := Lib.hid (by
          have := join_le hSh.out
          have h2 : (ss.take k).length ≤ 60 := by simp; omega
          rw [List.length_append, HFF.out]; omega)
        have hF2 : Hid ((byt s).length ≤ 16777215) := Lib.hid (by rw [byt_length]; omega)
        clear hsn hsk
        go_wp2_with (refine wpList_bytes rfl 9 27 _ rfl 5 Try.underlying9 Try.underlying27 Try.underlying5 s rfl hsz ?_)
        intro v4 w4 hbt hz4 hb4
        have HBT := Lib.hid hbt
        have HD4 := Lib.hid (hD.out.below hb4)
        have HB4 := Lib.hid (below_self hB.out hb4)
        clear hbt hz4 hb4 hD hB
        go_wp2_with fail
        refine (append_any _ p v _ f _ (byt s) _ HD4.out hJl.out HBT.out (byt_range s) hF2.out).mono ?_
        rintro e w5 ⟨he, v5, hd5, hf5⟩
        subst he
        rw [HSN.out] at hd5
        have HD5 := Lib.hid hd5
        have HB5 := Lib.hid (HB4.out.trans (HD4.out.foot hf5))
        clear hd5 hf5 HD4 HB4 hc3
        go_wp2_with fail
        go_roundw
        case rel => exact ⟨k + 1, v5, by omega, by go_num, HD5, HB5, HSH⟩
        case measure => simp [intOf]; omega
    · obtain rfl : k = ss.length := by omega
      have hSh' := hSh.out
      have hD' := hD.out
      rw [List.take_length] at hSh' hD'
      have hrg : ∀ x ∈ F ++ joinN (ss.map byt), 0 ≤ x ∧ x ≤ 255 := fun x hx => (List.mem_append.1 hx).elim (HFR.out x) (joinN_range _ (good_of hSh') x)
      have hJle : (F ++ joinN (ss.map byt)).length ≤ 1000000000 := by
        have := join_le hSh'
        rw [List.length_append, HFF.out]; omega
      obtain ⟨J, hJ⟩ : ∃ J, F ++ joinN (ss.map byt) = J := ⟨_, rfl⟩
      rw [hJ] at hD' hrg hJle
      have HD := Lib.hid hD'
      have HRG := Lib.hid hrg
      have HLE := Lib.hid hJle
      clear hSh hD hSh' hD' hrg hJ hJle
      go_wp2_with fail
      refine (dbytes_any _ p v J _ _ HD.out HLE.out).mono ?_
      rintro e w4 ⟨v4, he, ho, hb⟩
      subst he
      obtain ⟨a4, c4, rfl⟩ := ho.slice
      have HO4 := Lib.hid (ho.bt (by have := HLE.out; omega))
      have HD4 := Lib.hid (HD.out.below hb)
      have HB4 := Lib.hid (below_self hB.out hb)
      have hw4 : w.heap.size ≤ w4.heap.size := HB4.out.size
      clear ho hb HD hB
      go_wp2_with fail
      refine (dof_any _ J _ HO4.out HLE.out).mono ?_
      rintro e w5 ⟨p2, v5, he, hd, hb⟩
      subst he
      have HE5 := Lib.hid hd
      have HD5 := Lib.hid (HD4.out.below hb)
      have HB5 := Lib.hid (below_self HB4.out hb)
      have HP : Hid (p < w4.heap.size ∧ (∀ k, v.ownBlock = some k → k < w4.heap.size) ∧ w4.heap.size ≤ p2 ∧ ∀ k, v5.ownBlock = some k → w4.heap.size ≤ k) := Lib.hid ⟨HD4.out.lt, HD4.out.own.lt, hd.low, own8_from hd.own⟩
      clear hd hb HD4 HB4 HO4
      have hzero : Hid (((J.length : Nat) : Int) - (J.length : Nat) = 0) := Lib.hid (by omega)
      go_wp2_with fail
      refine (dirty_any _ p2 v5 J _ _ HE5.out HLE.out (Nat.le_refl _)).mono ?_
      rw [hzero.out]
      rintro e w6 ⟨he, hb⟩
      subst he
      have HE6 := Lib.hid (HE5.out.below hb)
      have HD6 := Lib.hid (HD5.out.below hb)
      have HB6 := Lib.hid (below_self HB5.out hb)
      clear hb HE5 HD5 HB5
      obtain ⟨L, hL⟩ : ∃ L, allN J = L := ⟨_, rfl⟩
      have hLlen : L.length ≤ 1000000000 := by
        rw [← hL]
        have h1 := allF_count (J.length + 1) J
        have h2 := HLE.out
        unfold allN
        omega
      have HL := Lib.hid hL
      clear hL
      go_wp2_with fail
      refine (open_any _ p v J _ _ HD6.out HLE.out HRG.out).mono ?_
      rintro e w7 ⟨lx, v7, he, hr, hv7, hd, hf⟩
      subst he
      rw [HL.out] at hr hd
      have HX7 := Lib.hid hr
      have HD7 := Lib.hid hd
      have HE7 := Lib.hid (HE6.out.other hf (by have := HP.out; omega) (fun k hk => by have := HP.out.2.1 k hk; have := HP.out; omega) (fun k hk => by have := HP.out.2.2.2 k hk; have := HP.out; omega) (fun k j hk hj => by have := HP.out.2.2.2 k hk; have := HP.out.2.1 j hj; omega))
      have HB7 := Lib.hid (HB6.out.trans (HD6.out.foot hf))
      have HQ : Hid (p2 < w6.heap.size ∧ (∀ k, v5.ownBlock = some k → k < w6.heap.size) ∧ ∀ k, v7.ownBlock = some k → k < w4.heap.size) := Lib.hid ⟨HE6.out.lt, HE6.out.own.lt, fun k hk => HP.out.2.1 k (by rw [← hv7]; exact hk)⟩
      have hw67 : w6.heap.size ≤ w7.heap.size := hf.size
      obtain ⟨ax, cx, rfl⟩ := hr.row.row
      clear hr hv7 hd hf HD6 HE6 HB6
      go_wp2_with fail
      refine (open_any _ p2 v5 J _ _ HE7.out HLE.out HRG.out).mono ?_
      rintro e w8 ⟨ly, v8, he, hr, hv8, hd, hf⟩
      subst he
      rw [HL.out] at hr hd
      have HX8 := Lib.hid (HX7.out.foot hf HQ.out.1 HQ.out.2.1)
      have HY8 := Lib.hid hr
      have HE8 := Lib.hid hd
      have HD8 := Lib.hid (HD7.out.other hf (by have := HP.out; omega) (fun k hk => by have := HP.out.2.2.2 k hk; have := HP.out; omega) (fun k hk => by have := HQ.out.2.2 k hk; have := HP.out; omega) (fun k j hk hj => by have := HP.out.2.2.2 j hj; have := HQ.out.2.2 k hk; omega))
      have HB8 := Lib.hid (HB7.out.trans ((hf.below (B := w4.heap.size) HP.out.2.2.1 HP.out.2.2.2 (by have := HD7.out.lt; have := HP.out; have := HQ.out; omega)).mono (by have := HP.out; have := HD7.out.low; omega)))
      obtain ⟨ay, cy, rfl⟩ := hr.row.row
      clear hr hv8 hd hf HD7 HE7 HB7 HX7 HQ HP
      have hll : ((L.length : Int) != (L.length : Int)) = false := by simp
      go_wp2_with fail
      obtain ⟨J2, hJ2⟩ : ∃ J2, J.take (totL L) = J2 := ⟨_, rfl⟩
      have hJ2l : J2.length ≤ 1000000000 := by
        rw [← hJ2]
        have := HLE.out
        simp; omega
      rw [hJ2] at HD8 HE8
      have HJL := Lib.hid hJ2l
      clear hJ2 hJ2l
      have q2 : ((txt J2).toList != (txt J2).toList) = false := by simp
      refine wp_region_held_drew (S := fun w' => Below w8.heap.size w8 w') (by kernel_rfl) ?_ (fun hHeld => ?_)
      · (first | exact Below.refl _ _ | exact (Below.refl _ _).drew | exact below_self (by assumption) (by assumption) | assumption)
      refine wpAnyH_take (i := 0) (v := ?_) rfl (by kernel_rfl) (by kernel_rfl) (by kernel_rfl) (fun _ _ _ h => h) (Or.inl ⟨by rfl, ?_⟩) (by assumption) ?_
      rotate_left
      · (intro w hSw; (try dsimp only at hSw); go_simp; try rfl)
      try simp only [Act.put, List.setIfInBounds_toArray, List.set_cons_zero, List.set_cons_succ, List.getElem_toArray, List.getElem_cons_zero, List.getElem_cons_succ]
      refine wpAnyH_take (i := 2) (v := ?_) rfl (by kernel_rfl) (by kernel_rfl) (by kernel_rfl) (fun _ _ _ h => h) (Or.inl ⟨by rfl, ?_⟩) (by assumption) ?_
      rotate_left
      · (intro w hSw; (try dsimp only at hSw); go_simp; try rfl)
      try simp only [Act.put, List.setIfInBounds_toArray, List.set_cons_zero, List.set_cons_succ, List.getElem_toArray, List.getElem_cons_zero, List.getElem_cons_succ]
      refine wpAnyH_ready (rs := [1, 3]) (by kernel_rfl) (by simp) ?_
      refine (AllReadyH.cons rfl (fun K hK => ?_) (AllReadyH.cons rfl (fun K hK => ?_) AllReadyH.nil))
      ·
        go_simp
        refine hK.out _ _ ?_ (fun hHeld => ?_)
        · (first | exact Below.refl _ _ | exact (Below.refl _ _).drew | exact below_self (by assumption) (by assumption) | assumption)
        clear hK K
        try simp only [Act.put, List.setIfInBounds_toArray, List.set_cons_zero, List.set_cons_succ, List.getElem_toArray, List.getElem_cons_zero, List.getElem_cons_succ]
        refine wpAnyH_ready (rs := [3]) (by kernel_rfl) (by simp) ?_
        refine (AllReadyH.cons rfl (fun K hK => ?_) AllReadyH.nil)
        go_simp
        refine hK.out _ _ ?_ (fun hHeld => ?_)
        · (first | exact Below.refl _ _ | exact (Below.refl _ _).drew | exact below_self (by assumption) (by assumption) | assumption)
        clear hK K
        try simp only [Act.put, List.setIfInBounds_toArray, List.set_cons_zero, List.set_cons_succ, List.getElem_toArray, List.getElem_cons_zero, List.getElem_cons_succ]
        refine wpAnyH_take (i := 4) (v := ?_) rfl (by kernel_rfl) (by kernel_rfl) (by kernel_rfl) (fun _ _ _ h => h) (Or.inl ⟨by rfl, ?_⟩) (by assumption) ?_
        rotate_left
        · (intro w hSw; (try dsimp only at hSw); go_simp; try rfl)
        try simp only [Act.put, List.setIfInBounds_toArray, List.set_cons_zero, List.set_cons_succ, List.getElem_toArray, List.getElem_cons_zero, List.getElem_cons_succ]
        refine wpAnyH_take (i := 5) (v := ?_) rfl (by kernel_rfl) (by kernel_rfl) (by kernel_rfl) (fun _ _ _ h => h) (Or.inl ⟨by rfl, ?_⟩) (by assumption) ?_
        rotate_left
        · (intro w hSw; (try dsimp only at hSw); go_simp; try rfl)
        try simp only [Act.put, List.setIfInBounds_toArray, List.set_cons_zero, List.set_cons_succ, List.getElem_toArray, List.getElem_cons_zero, List.getElem_cons_succ]
        refine wpAnyH_take (i := 6) (v := ?_) rfl (by kernel_rfl) (by kernel_rfl) (by kernel_rfl) (fun _ _ _ h => h) (Or.inl ⟨by rfl, ?_⟩) (by assumption) ?_
        rotate_left
        · (intro w hSw; (try dsimp only at hSw); go_simp; try rfl)
        try simp only [Act.put, List.setIfInBounds_toArray, List.set_cons_zero, List.set_cons_succ, List.getElem_toArray, List.getElem_cons_zero, List.getElem_cons_succ]
        refine wpAnyH_take (i := 9) (v := ?_) rfl (by kernel_rfl) (by kernel_rfl) (by kernel_rfl) (fun _ _ _ h => h) (Or.inl ⟨by rfl, ?_⟩) (by assumption) ?_
        rotate_left
        · (intro w hSw; (try dsimp only at hSw); go_simp; try rfl)
        try simp only [Act.put, List.setIfInBounds_toArray, List.set_cons_zero, List.set_cons_succ, List.getElem_toArray, List.getElem_cons_zero, List.getElem_cons_succ]
        refine wpAnyH_ready (rs := [7]) (by kernel_rfl) (by simp) ?_
        refine (AllReadyH.cons rfl (fun K hK => ?_) AllReadyH.nil)
        go_simp
        (refine (dbytes_any _ p v7 J2 _ _ (HD8.out.below (by assumption)) HJL.out).mono ?_; rintro e w9 ⟨v9, rfl, ho9, hb9⟩; obtain ⟨a9, c9, rfl⟩ := ho9.slice; have HO9 := Lib.hid (ho9.bt (by have := HJL.out; omega)); clear ho9)
        refine hK.out _ _ ?_ (fun hHeld => ?_)
        · (first | exact Below.refl _ _ | exact (Below.refl _ _).drew | exact below_self (by assumption) (by assumption) | assumption)
        clear hK K
        try simp only [Act.put, List.setIfInBounds_toArray, List.set_cons_zero, List.set_cons_succ, List.getElem_toArray, List.getElem_cons_zero, List.getElem_cons_succ]
        refine wpAnyH_ready (rs := [8, 10]) (by kernel_rfl) (by simp) ?_
        refine (AllReadyH.cons rfl (fun K hK => ?_) (AllReadyH.cons rfl (fun K hK => ?_) AllReadyH.nil))
        ·
          refine step_text (by rfl) 27 9 _ rfl 5 Try.underlying27 Try.underlying5 Try.underlying9 _ J2 rfl (by first | exact HO9.out | exact HO9.out.below (by assumption)) ?_
          refine hK.out _ _ ?_ (fun hHeld => ?_)
          · (first | exact Below.refl _ _ | exact (Below.refl _ _).drew | exact below_self (by assumption) (by assumption) | assumption)
          clear hK K
          try simp only [Act.put, List.setIfInBounds_toArray, List.set_cons_zero, List.set_cons_succ, List.getElem_toArray, List.getElem_cons_zero, List.getElem_cons_succ]
          refine wpAnyH_ready (rs := [10]) (by kernel_rfl) (by simp) ?_
          refine (AllReadyH.cons rfl (fun K hK => ?_) AllReadyH.nil)
          go_simp
          (refine (dbytes_any _ p2 v8 J2 _ _ (HE8.out.below (by assumption)) HJL.out).mono ?_; rintro e w10 ⟨v10, rfl, ho10, hb10⟩; obtain ⟨a10, c10, rfl⟩ := ho10.slice; have HO10 := Lib.hid (ho10.bt (by have := HJL.out; omega)); clear ho10)
          refine hK.out _ _ ?_ (fun hHeld => ?_)
          · (first | exact Below.refl _ _ | exact (Below.refl _ _).drew | exact below_self (by assumption) (by assumption) | assumption)
          clear hK K
          try simp only [Act.put, List.setIfInBounds_toArray, List.set_cons_zero, List.set_cons_succ, List.getElem_toArray, List.getElem_cons_zero, List.getElem_cons_succ]
          refine wpAnyH_ready (rs := [11]) (by kernel_rfl) (by simp) ?_
          refine (AllReadyH.cons rfl (fun K hK => ?_) AllReadyH.nil)
          refine step_text (by rfl) 27 9 _ rfl 5 Try.underlying27 Try.underlying5 Try.underlying9 _ J2 rfl (by first | exact HO10.out | exact HO10.out.below (by assumption)) ?_
          refine hK.out _ _ ?_ (fun hHeld => ?_)
          · (first | exact Below.refl _ _ | exact (Below.refl _ _).drew | exact below_self (by assumption) (by assumption) | assumption)
          clear hK K
          try simp only [Act.put, List.setIfInBounds_toArray, List.set_cons_zero, List.set_cons_succ, List.getElem_toArray, List.getElem_cons_zero, List.getElem_cons_succ]
          refine wpAnyH_take (i := 12) (v := ?_) rfl (by kernel_rfl) (by kernel_rfl) (by kernel_rfl) (fun _ _ _ h => h) (Or.inl ⟨by rfl, ?_⟩) (by assumption) ?_
          rotate_left
          · (intro w hSw; (try dsimp only at hSw); go_simp; try rfl)
          try simp only [Act.put, List.setIfInBounds_toArray, List.set_cons_zero, List.set_cons_succ, List.getElem_toArray, List.getElem_cons_zero, List.getElem_cons_succ]
          refine wpAnyH_take (i := 13) (v := ?_) rfl (by kernel_rfl) (by kernel_rfl) (by kernel_rfl) (fun _ _ _ h => h) (Or.inl ⟨by rfl, ?_⟩) (by assumption) ?_
          rotate_left
          · (intro w hSw; (try dsimp only at hSw); go_simp; try rfl)
          try simp only [Act.put, List.setIfInBounds_toArray, List.set_cons_zero, List.set_cons_succ, List.getElem_toArray, List.getElem_cons_zero, List.getElem_cons_succ]
          refine wpAnyH_done (by kernel_rfl) ?_ _
          have hw10 : Below w8.heap.size w8 w10 := by assumption
          have HW10 := Lib.hid hw10
          clear hw10
          go_wp2
          go_loopw [11] (fun i wr => ∃ k : Nat, k ≤ L.length ∧ i = .int .i64 k ∧ Hid (Below w8.heap.size w8 wr)) (fun i _ => L.length - (intOf i).toNat)
          case atStart => exact ⟨0, Nat.zero_le _, rfl, HW10⟩
          case round =>
            obtain ⟨k, hk, rfl, hB9⟩ := hrel
            by_cases hlt : k < L.length
            · obtain ⟨t, ht⟩ : ∃ t, txt (L.getD k []) = t := ⟨_, rfl⟩
              obtain ⟨g5, xv, rfl, hc5, kx, kx2⟩ := body_cell2 HX8.out.row hB9.out k hlt t ht
              obtain ⟨g6, yv, rfl, hc6, ky, ky2⟩ := body_cell2 HY8.out.row hB9.out k hlt t ht
              have hc5d : wr.drew.cell? ⟨g5, k, none⟩ = some xv := hc5
              have hc6d : wr.drew.cell? ⟨g6, k, none⟩ = some yv := hc6
              have q1 : (t.toList == t.toList) = true := by simp
              have q3 : (t.toList != t.toList) = false := by simp
              have hkn' : (k : Int) < (L.length : Int) := by omega
              clear ht
              go_wp2
              go_region
              go_wp2
              go_roundw
              case rel => exact ⟨k + 1, by omega, by go_num, Lib.hid (hB9.out.drew)⟩
              case measure => simp [intOf]; omega
            · obtain rfl : k = L.length := by omega
              go_wp2
              go_ret
              exact ⟨rfl, HB8.out.trans (hB9.out.mono HB8.out.size)⟩
        ·
          go_simp
          (refine (dbytes_any _ p2 v8 J2 _ _ (HE8.out.below (by assumption)) HJL.out).mono ?_; rintro e w10 ⟨v10, rfl, ho10, hb10⟩; obtain ⟨a10, c10, rfl⟩ := ho10.slice; have HO10 := Lib.hid (ho10.bt (by have := HJL.out; omega)); clear ho10)
          refine hK.out _ _ ?_ (fun hHeld => ?_)
          · (first | exact Below.refl _ _ | exact (Below.refl _ _).drew | exact below_self (by assumption) (by assumption) | assumption)
          clear hK K
          try simp only [Act.put, List.setIfInBounds_toArray, List.set_cons_zero, List.set_cons_succ, List.getElem_toArray, List.getElem_cons_zero, List.getElem_cons_succ]
          refine wpAnyH_ready (rs := [8, 11]) (by kernel_rfl) (by simp) ?_
          refine (AllReadyH.cons rfl (fun K hK => ?_) (AllReadyH.cons rfl (fun K hK => ?_) AllReadyH.nil))
          ·
            refine step_text (by rfl) 27 9 _ rfl 5 Try.underlying27 Try.underlying5 Try.underlying9 _ J2 rfl (by first | exact HO9.out | exact HO9.out.below (by assumption)) ?_
            refine hK.out _ _ ?_ (fun hHeld => ?_)
            · (first | exact Below.refl _ _ | exact (Below.refl _ _).drew | exact below_self (by assumption) (by assumption) | assumption)
            clear hK K
            try simp only [Act.put, List.setIfInBounds_toArray, List.set_cons_zero, List.set_cons_succ, List.getElem_toArray, List.getElem_cons_zero, List.getElem_cons_succ]
            refine wpAnyH_ready (rs := [11]) (by kernel_rfl) (by simp) ?_
            refine (AllReadyH.cons rfl (fun K hK => ?_) AllReadyH.nil)
            refine step_text (by rfl) 27 9 _ rfl 5 Try.underlying27 Try.underlying5 Try.underlying9 _ J2 rfl (by first | exact HO10.out | exact HO10.out.below (by assumption)) ?_
            refine hK.out _ _ ?_ (fun hHeld => ?_)
            · (first | exact Below.refl _ _ | exact (Below.refl _ _).drew | exact below_self (by assumption) (by assumption) | assumption)
            clear hK K
            try simp only [Act.put, List.setIfInBounds_toArray, List.set_cons_zero, List.set_cons_succ, List.getElem_toArray, List.getElem_cons_zero, List.getElem_cons_succ]
            refine wpAnyH_take (i := 12) (v := ?_) rfl (by kernel_rfl) (by kernel_rfl) (by kernel_rfl) (fun _ _ _ h => h) (Or.inl ⟨by rfl, ?_⟩) (by assumption) ?_
            rotate_left
            · (intro w hSw; (try dsimp only at hSw); go_simp; try rfl)
            try simp only [Act.put, List.setIfInBounds_toArray, List.set_cons_zero, List.set_cons_succ, List.getElem_toArray, List.getElem_cons_zero, List.getElem_cons_succ]
            refine wpAnyH_take (i := 13) (v := ?_) rfl (by kernel_rfl) (by kernel_rfl) (by kernel_rfl) (fun _ _ _ h => h) (Or.inl ⟨by rfl, ?_⟩) (by assumption) ?_
            rotate_left
            · (intro w hSw; (try dsimp only at hSw); go_simp; try rfl)
            try simp only [Act.put, List.setIfInBounds_toArray, List.set_cons_zero, List.set_cons_succ, List.getElem_toArray, List.getElem_cons_zero, List.getElem_cons_succ]
            refine wpAnyH_done (by kernel_rfl) ?_ _
            have hw10 : Below w8.heap.size w8 w10 := by assumption
            have HW10 := Lib.hid hw10
            clear hw10
            go_wp2
            go_loopw [11] (fun i wr => ∃ k : Nat, k ≤ L.length ∧ i = .int .i64 k ∧ Hid (Below w8.heap.size w8 wr)) (fun i _ => L.length - (intOf i).toNat)
            case atStart => exact ⟨0, Nat.zero_le _, rfl, HW10⟩
            case round =>
              obtain ⟨k, hk, rfl, hB9⟩ := hrel
              by_cases hlt : k < L.length
              · obtain ⟨t, ht⟩ : ∃ t, txt (L.getD k []) = t := ⟨_, rfl⟩
                obtain ⟨g5, xv, rfl, hc5, kx, kx2⟩ := body_cell2 HX8.out.row hB9.out k hlt t ht
                obtain ⟨g6, yv, rfl, hc6, ky, ky2⟩ := body_cell2 HY8.out.row hB9.out k hlt t ht
                have hc5d : wr.drew.cell? ⟨g5, k, none⟩ = some xv := hc5
                have hc6d : wr.drew.cell? ⟨g6, k, none⟩ = some yv := hc6
                have q1 : (t.toList == t.toList) = true := by simp
                have q3 : (t.toList != t.toList) = false := by simp
                have hkn' : (k : Int) < (L.length : Int) := by omega
                clear ht
                go_wp2
                go_region
                go_wp2
                go_roundw
                case rel => exact ⟨k + 1, by omega, by go_num, Lib.hid (hB9.out.drew)⟩
                case measure => simp [intOf]; omega
              · obtain rfl : k = L.length := by omega
                go_wp2
                go_ret
                exact ⟨rfl, HB8.out.trans (hB9.out.mono HB8.out.size)⟩
          ·
            refine step_text (by rfl) 27 9 _ rfl 5 Try.underlying27 Try.underlying5 Try.underlying9 _ J2 rfl (by first | exact HO10.out | exact HO10.out.below (by assumption)) ?_
            refine hK.out _ _ ?_ (fun hHeld => ?_)
            · (first | exact Below.refl _ _ | exact (Below.refl _ _).drew | exact below_self (by assumption) (by assumption) | assumption)
            clear hK K
            try simp only [Act.put, List.setIfInBounds_toArray, List.set_cons_zero, List.set_cons_succ, List.getElem_toArray, List.getElem_cons_zero, List.getElem_cons_succ]
            refine wpAnyH_ready (rs := [8]) (by kernel_rfl) (by simp) ?_
            refine (AllReadyH.cons rfl (fun K hK => ?_) AllReadyH.nil)
            refine step_text (by rfl) 27 9 _ rfl 5 Try.underlying27 Try.underlying5 Try.underlying9 _ J2 rfl (by first | exact HO9.out | exact HO9.out.below (by assumption)) ?_
            refine hK.out _ _ ?_ (fun hHeld => ?_)
            · (first | exact Below.refl _ _ | exact (Below.refl _ _).drew | exact below_self (by assumption) (by assumption) | assumption)
            clear hK K
            try simp only [Act.put, List.setIfInBounds_toArray, List.set_cons_zero, List.set_cons_succ, List.getElem_toArray, List.getElem_cons_zero, List.getElem_cons_succ]
            refine wpAnyH_take (i := 12) (v := ?_) rfl (by kernel_rfl) (by kernel_rfl) (by kernel_rfl) (fun _ _ _ h => h) (Or.inl ⟨by rfl, ?_⟩) (by assumption) ?_
            rotate_left
            · (intro w hSw; (try dsimp only at hSw); go_simp; try rfl)
            try simp only [Act.put, List.setIfInBounds_toArray, List.set_cons_zero, List.set_cons_succ, List.getElem_toArray, List.getElem_cons_zero, List.getElem_cons_succ]
            refine wpAnyH_take (i := 13) (v := ?_) rfl (by kernel_rfl) (by kernel_rfl) (by kernel_rfl) (fun _ _ _ h => h) (Or.inl ⟨by rfl, ?_⟩) (by assumption) ?_
            rotate_left
            · (intro w hSw; (try dsimp only at hSw); go_simp; try rfl)
            try simp only [Act.put, List.setIfInBounds_toArray, List.set_cons_zero, List.set_cons_succ, List.getElem_toArray, List.getElem_cons_zero, List.getElem_cons_succ]
            refine wpAnyH_done (by kernel_rfl) ?_ _
            have hw10 : Below w8.heap.size w8 w10 := by assumption
            have HW10 := Lib.hid hw10
            clear hw10
            go_wp2
            go_loopw [11] (fun i wr => ∃ k : Nat, k ≤ L.length ∧ i = .int .i64 k ∧ Hid (Below w8.heap.size w8 wr)) (fun i _ => L.length - (intOf i).toNat)
            case atStart => exact ⟨0, Nat.zero_le _, rfl, HW10⟩
            case round =>
              obtain ⟨k, hk, rfl, hB9⟩ := hrel
              by_cases hlt : k < L.length
              · obtain ⟨t, ht⟩ : ∃ t, txt (L.getD k []) = t := ⟨_, rfl⟩
                obtain ⟨g5, xv, rfl, hc5, kx, kx2⟩ := body_cell2 HX8.out.row hB9.out k hlt t ht
                obtain ⟨g6, yv, rfl, hc6, ky, ky2⟩ := body_cell2 HY8.out.row hB9.out k hlt t ht
                have hc5d : wr.drew.cell? ⟨g5, k, none⟩ = some xv := hc5
                have hc6d : wr.drew.cell? ⟨g6, k, none⟩ = some yv := hc6
                have q1 : (t.toList == t.toList) = true := by simp
                have q3 : (t.toList != t.toList) = false := by simp
                have hkn' : (k : Int) < (L.length : Int) := by omega
                clear ht
                go_wp2
                go_region
                go_wp2
                go_roundw
                case rel => exact ⟨k + 1, by omega, by go_num, Lib.hid (hB9.out.drew)⟩
                case measure => simp [intOf]; omega
              · obtain rfl : k = L.length := by omega
                go_wp2
                go_ret
                exact ⟨rfl, HB8.out.trans (hB9.out.mono HB8.out.size)⟩
      ·
        go_simp
        refine hK.out _ _ ?_ (fun hHeld => ?_)
        · (first | exact Below.refl _ _ | exact (Below.refl _ _).drew | exact below_self (by assumption) (by assumption) | assumption)
        clear hK K
        try simp only [Act.put, List.setIfInBounds_toArray, List.set_cons_zero, List.set_cons_succ, List.getElem_toArray, List.getElem_cons_zero, List.getElem_cons_succ]
        refine wpAnyH_ready (rs := [1]) (by kernel_rfl) (by simp) ?_
        refine (AllReadyH.cons rfl (fun K hK => ?_) AllReadyH.nil)
        go_simp
        refine hK.out _ _ ?_ (fun hHeld => ?_)
        · (first | exact Below.refl _ _ | exact (Below.refl _ _).drew | exact below_self (by assumption) (by assumption) | assumption)
        clear hK K
        try simp only [Act.put, List.setIfInBounds_toArray, List.set_cons_zero, List.set_cons_succ, List.getElem_toArray, List.getElem_cons_zero, List.getElem_cons_succ]
        refine wpAnyH_take (i := 4) (v := ?_) rfl (by kernel_rfl) (by kernel_rfl) (by kernel_rfl) (fun _ _ _ h => h) (Or.inl ⟨by rfl, ?_⟩) (by assumption) ?_
        rotate_left
        · (intro w hSw; (try dsimp only at hSw); go_simp; try rfl)
        try simp only [Act.put, List.setIfInBounds_toArray, List.set_cons_zero, List.set_cons_succ, List.getElem_toArray, List.getElem_cons_zero, List.getElem_cons_succ]
        refine wpAnyH_take (i := 5) (v := ?_) rfl (by kernel_rfl) (by kernel_rfl) (by kernel_rfl) (fun _ _ _ h => h) (Or.inl ⟨by rfl, ?_⟩) (by assumption) ?_
        rotate_left
        · (intro w hSw; (try dsimp only at hSw); go_simp; try rfl)
        try simp only [Act.put, List.setIfInBounds_toArray, List.set_cons_zero, List.set_cons_succ, List.getElem_toArray, List.getElem_cons_zero, List.getElem_cons_succ]
        refine wpAnyH_take (i := 6) (v := ?_) rfl (by kernel_rfl) (by kernel_rfl) (by kernel_rfl) (fun _ _ _ h => h) (Or.inl ⟨by rfl, ?_⟩) (by assumption) ?_
        rotate_left
        · (intro w hSw; (try dsimp only at hSw); go_simp; try rfl)
        try simp only [Act.put, List.setIfInBounds_toArray, List.set_cons_zero, List.set_cons_succ, List.getElem_toArray, List.getElem_cons_zero, List.getElem_cons_succ]
        refine wpAnyH_take (i := 9) (v := ?_) rfl (by kernel_rfl) (by kernel_rfl) (by kernel_rfl) (fun _ _ _ h => h) (Or.inl ⟨by rfl, ?_⟩) (by assumption) ?_
        rotate_left
        · (intro w hSw; (try dsimp only at hSw); go_simp; try rfl)
        try simp only [Act.put, List.setIfInBounds_toArray, List.set_cons_zero, List.set_cons_succ, List.getElem_toArray, List.getElem_cons_zero, List.getElem_cons_succ]
        refine wpAnyH_ready (rs := [7]) (by kernel_rfl) (by simp) ?_
        refine (AllReadyH.cons rfl (fun K hK => ?_) AllReadyH.nil)
        go_simp
        (refine (dbytes_any _ p v7 J2 _ _ (HD8.out.below (by assumption)) HJL.out).mono ?_; rintro e w9 ⟨v9, rfl, ho9, hb9⟩; obtain ⟨a9, c9, rfl⟩ := ho9.slice; have HO9 := Lib.hid (ho9.bt (by have := HJL.out; omega)); clear ho9)
        refine hK.out _ _ ?_ (fun hHeld => ?_)
        · (first | exact Below.refl _ _ | exact (Below.refl _ _).drew | exact below_self (by assumption) (by assumption) | assumption)
        clear hK K
        try simp only [Act.put, List.setIfInBounds_toArray, List.set_cons_zero, List.set_cons_succ, List.getElem_toArray, List.getElem_cons_zero, List.getElem_cons_succ]
        refine wpAnyH_ready (rs := [8, 10]) (by kernel_rfl) (by simp) ?_
        refine (AllReadyH.cons rfl (fun K hK => ?_) (AllReadyH.cons rfl (fun K hK => ?_) AllReadyH.nil))
        ·
          refine step_text (by rfl) 27 9 _ rfl 5 Try.underlying27 Try.underlying5 Try.underlying9 _ J2 rfl (by first | exact HO9.out | exact HO9.out.below (by assumption)) ?_
          refine hK.out _ _ ?_ (fun hHeld => ?_)
          · (first | exact Below.refl _ _ | exact (Below.refl _ _).drew | exact below_self (by assumption) (by assumption) | assumption)
          clear hK K
          try simp only [Act.put, List.setIfInBounds_toArray, List.set_cons_zero, List.set_cons_succ, List.getElem_toArray, List.getElem_cons_zero, List.getElem_cons_succ]
          refine wpAnyH_ready (rs := [10]) (by kernel_rfl) (by simp) ?_
          refine (AllReadyH.cons rfl (fun K hK => ?_) AllReadyH.nil)
          go_simp
          (refine (dbytes_any _ p2 v8 J2 _ _ (HE8.out.below (by assumption)) HJL.out).mono ?_; rintro e w10 ⟨v10, rfl, ho10, hb10⟩; obtain ⟨a10, c10, rfl⟩ := ho10.slice; have HO10 := Lib.hid (ho10.bt (by have := HJL.out; omega)); clear ho10)
          refine hK.out _ _ ?_ (fun hHeld => ?_)
          · (first | exact Below.refl _ _ | exact (Below.refl _ _).drew | exact below_self (by assumption) (by assumption) | assumption)
          clear hK K
          try simp only [Act.put, List.setIfInBounds_toArray, List.set_cons_zero, List.set_cons_succ, List.getElem_toArray, List.getElem_cons_zero, List.getElem_cons_succ]
          refine wpAnyH_ready (rs := [11]) (by kernel_rfl) (by simp) ?_
          refine (AllReadyH.cons rfl (fun K hK => ?_) AllReadyH.nil)
          refine step_text (by rfl) 27 9 _ rfl 5 Try.underlying27 Try.underlying5 Try.underlying9 _ J2 rfl (by first | exact HO10.out | exact HO10.out.below (by assumption)) ?_
          refine hK.out _ _ ?_ (fun hHeld => ?_)
          · (first | exact Below.refl _ _ | exact (Below.refl _ _).drew | exact below_self (by assumption) (by assumption) | assumption)
          clear hK K
          try simp only [Act.put, List.setIfInBounds_toArray, List.set_cons_zero, List.set_cons_succ, List.getElem_toArray, List.getElem_cons_zero, List.getElem_cons_succ]
          refine wpAnyH_take (i := 12) (v := ?_) rfl (by kernel_rfl) (by kernel_rfl) (by kernel_rfl) (fun _ _ _ h => h) (Or.inl ⟨by rfl, ?_⟩) (by assumption) ?_
          rotate_left
          · (intro w hSw; (try dsimp only at hSw); go_simp; try rfl)
          try simp only [Act.put, List.setIfInBounds_toArray, List.set_cons_zero, List.set_cons_succ, List.getElem_toArray, List.getElem_cons_zero, List.getElem_cons_succ]
          refine wpAnyH_take (i := 13) (v := ?_) rfl (by kernel_rfl) (by kernel_rfl) (by kernel_rfl) (fun _ _ _ h => h) (Or.inl ⟨by rfl, ?_⟩) (by assumption) ?_
          rotate_left
          · (intro w hSw; (try dsimp only at hSw); go_simp; try rfl)
          try simp only [Act.put, List.setIfInBounds_toArray, List.set_cons_zero, List.set_cons_succ, List.getElem_toArray, List.getElem_cons_zero, List.getElem_cons_succ]
          refine wpAnyH_done (by kernel_rfl) ?_ _
          have hw10 : Below w8.heap.size w8 w10 := by assumption
          have HW10 := Lib.hid hw10
          clear hw10
          go_wp2
          go_loopw [11] (fun i wr => ∃ k : Nat, k ≤ L.length ∧ i = .int .i64 k ∧ Hid (Below w8.heap.size w8 wr)) (fun i _ => L.length - (intOf i).toNat)
          case atStart => exact ⟨0, Nat.zero_le _, rfl, HW10⟩
          case round =>
            obtain ⟨k, hk, rfl, hB9⟩ := hrel
            by_cases hlt : k < L.length
            · obtain ⟨t, ht⟩ : ∃ t, txt (L.getD k []) = t := ⟨_, rfl⟩
              obtain ⟨g5, xv, rfl, hc5, kx, kx2⟩ := body_cell2 HX8.out.row hB9.out k hlt t ht
              obtain ⟨g6, yv, rfl, hc6, ky, ky2⟩ := body_cell2 HY8.out.row hB9.out k hlt t ht
              have hc5d : wr.drew.cell? ⟨g5, k, none⟩ = some xv := hc5
              have hc6d : wr.drew.cell? ⟨g6, k, none⟩ = some yv := hc6
              have q1 : (t.toList == t.toList) = true := by simp
              have q3 : (t.toList != t.toList) = false := by simp
              have hkn' : (k : Int) < (L.length : Int) := by omega
              clear ht
              go_wp2
              go_region
              go_wp2
              go_roundw
              case rel => exact ⟨k + 1, by omega, by go_num, Lib.hid (hB9.out.drew)⟩
              case measure => simp [intOf]; omega
            · obtain rfl : k = L.length := by omega
              go_wp2
              go_ret
              exact ⟨rfl, HB8.out.trans (hB9.out.mono HB8.out.size)⟩
        ·
          go_simp
          (refine (dbytes_any _ p2 v8 J2 _ _ (HE8.out.below (by assumption)) HJL.out).mono ?_; rintro e w10 ⟨v10, rfl, ho10, hb10⟩; obtain ⟨a10, c10, rfl⟩ := ho10.slice; have HO10 := Lib.hid (ho10.bt (by have := HJL.out; omega)); clear ho10)
          refine hK.out _ _ ?_ (fun hHeld => ?_)
          · (first | exact Below.refl _ _ | exact (Below.refl _ _).drew | exact below_self (by assumption) (by assumption) | assumption)
          clear hK K
          try simp only [Act.put, List.setIfInBounds_toArray, List.set_cons_zero, List.set_cons_succ, List.getElem_toArray, List.getElem_cons_zero, List.getElem_cons_succ]
          refine wpAnyH_ready (rs := [8, 11]) (by kernel_rfl) (by simp) ?_
          refine (AllReadyH.cons rfl (fun K hK => ?_) (AllReadyH.cons rfl (fun K hK => ?_) AllReadyH.nil))
          ·
            refine step_text (by rfl) 27 9 _ rfl 5 Try.underlying27 Try.underlying5 Try.underlying9 _ J2 rfl (by first | exact HO9.out | exact HO9.out.below (by assumption)) ?_
            refine hK.out _ _ ?_ (fun hHeld => ?_)
            · (first | exact Below.refl _ _ | exact (Below.refl _ _).drew | exact below_self (by assumption) (by assumption) | assumption)
            clear hK K
            try simp only [Act.put, List.setIfInBounds_toArray, List.set_cons_zero, List.set_cons_succ, List.getElem_toArray, List.getElem_cons_zero, List.getElem_cons_succ]
            refine wpAnyH_ready (rs := [11]) (by kernel_rfl) (by simp) ?_
            refine (AllReadyH.cons rfl (fun K hK => ?_) AllReadyH.nil)
            refine step_text (by rfl) 27 9 _ rfl 5 Try.underlying27 Try.underlying5 Try.underlying9 _ J2 rfl (by first | exact HO10.out | exact HO10.out.below (by assumption)) ?_
            refine hK.out _ _ ?_ (fun hHeld => ?_)
            · (first | exact Below.refl _ _ | exact (Below.refl _ _).drew | exact below_self (by assumption) (by assumption) | assumption)
            clear hK K
            try simp only [Act.put, List.setIfInBounds_toArray, List.set_cons_zero, List.set_cons_succ, List.getElem_toArray, List.getElem_cons_zero, List.getElem_cons_succ]
            refine wpAnyH_take (i := 12) (v := ?_) rfl (by kernel_rfl) (by kernel_rfl) (by kernel_rfl) (fun _ _ _ h => h) (Or.inl ⟨by rfl, ?_⟩) (by assumption) ?_
            rotate_left
            · (intro w hSw; (try dsimp only at hSw); go_simp; try rfl)
            try simp only [Act.put, List.setIfInBounds_toArray, List.set_cons_zero, List.set_cons_succ, List.getElem_toArray, List.getElem_cons_zero, List.getElem_cons_succ]
            refine wpAnyH_take (i := 13) (v := ?_) rfl (by kernel_rfl) (by kernel_rfl) (by kernel_rfl) (fun _ _ _ h => h) (Or.inl ⟨by rfl, ?_⟩) (by assumption) ?_
            rotate_left
            · (intro w hSw; (try dsimp only at hSw); go_simp; try rfl)
            try simp only [Act.put, List.setIfInBounds_toArray, List.set_cons_zero, List.set_cons_succ, List.getElem_toArray, List.getElem_cons_zero, List.getElem_cons_succ]
            refine wpAnyH_done (by kernel_rfl) ?_ _
            have hw10 : Below w8.heap.size w8 w10 := by assumption
            have HW10 := Lib.hid hw10
            clear hw10
            go_wp2
            go_loopw [11] (fun i wr => ∃ k : Nat, k ≤ L.length ∧ i = .int .i64 k ∧ Hid (Below w8.heap.size w8 wr)) (fun i _ => L.length - (intOf i).toNat)
            case atStart => exact ⟨0, Nat.zero_le _, rfl, HW10⟩
            case round =>
              obtain ⟨k, hk, rfl, hB9⟩ := hrel
              by_cases hlt : k < L.length
              · obtain ⟨t, ht⟩ : ∃ t, txt (L.getD k []) = t := ⟨_, rfl⟩
                obtain ⟨g5, xv, rfl, hc5, kx, kx2⟩ := body_cell2 HX8.out.row hB9.out k hlt t ht
                obtain ⟨g6, yv, rfl, hc6, ky, ky2⟩ := body_cell2 HY8.out.row hB9.out k hlt t ht
                have hc5d : wr.drew.cell? ⟨g5, k, none⟩ = some xv := hc5
                have hc6d : wr.drew.cell? ⟨g6, k, none⟩ = some yv := hc6
                have q1 : (t.toList == t.toList) = true := by simp
                have q3 : (t.toList != t.toList) = false := by simp
                have hkn' : (k : Int) < (L.length : Int) := by omega
                clear ht
                go_wp2
                go_region
                go_wp2
                go_roundw
                case rel => exact ⟨k + 1, by omega, by go_num, Lib.hid (hB9.out.drew)⟩
                case measure => simp [intOf]; omega
              · obtain rfl : k = L.length := by omega
                go_wp2
                go_ret
                exact ⟨rfl, HB8.out.trans (hB9.out.mono HB8.out.size)⟩
          ·
            refine step_text (by rfl) 27 9 _ rfl 5 Try.underlying27 Try.underlying5 Try.underlying9 _ J2 rfl (by first | exact HO10.out | exact HO10.out.below (by assumption)) ?_
            refine hK.out _ _ ?_ (fun hHeld => ?_)
            · (first | exact Below.refl _ _ | exact (Below.refl _ _).drew | exact below_self (by assumption) (by assumption) | assumption)
            clear hK K
            try simp only [Act.put, List.setIfInBounds_toArray, List.set_cons_zero, List.set_cons_succ, List.getElem_toArray, List.getElem_cons_zero, List.getElem_cons_succ]
            refine wpAnyH_ready (rs := [8]) (by kernel_rfl) (by simp) ?_
            refine (AllReadyH.cons rfl (fun K hK => ?_) AllReadyH.nil)
            refine step_text (by rfl) 27 9 _ rfl 5 Try.underlying27 Try.underlying5 Try.underlying9 _ J2 rfl (by first | exact HO9.out | exact HO9.out.below (by assumption)) ?_
            refine hK.out _ _ ?_ (fun hHeld => ?_)
            · (first | exact Below.refl _ _ | exact (Below.refl _ _).drew | exact below_self (by assumption) (by assumption) | assumption)
            clear hK K
            try simp only [Act.put, List.setIfInBounds_toArray, List.set_cons_zero, List.set_cons_succ, List.getElem_toArray, List.getElem_cons_zero, List.getElem_cons_succ]
            refine wpAnyH_take (i := 12) (v := ?_) rfl (by kernel_rfl) (by kernel_rfl) (by kernel_rfl) (fun _ _ _ h => h) (Or.inl ⟨by rfl, ?_⟩) (by assumption) ?_
            rotate_left
            · (intro w hSw; (try dsimp only at hSw); go_simp; try rfl)
            try simp only [Act.put, List.setIfInBounds_toArray, List.set_cons_zero, List.set_cons_succ, List.getElem_toArray, List.getElem_cons_zero, List.getElem_cons_succ]
            refine wpAnyH_take (i := 13) (v := ?_) rfl (by kernel_rfl) (by kernel_rfl) (by kernel_rfl) (fun _ _ _ h => h) (Or.inl ⟨by rfl, ?_⟩) (by assumption) ?_
            rotate_left
            · (intro w hSw; (try dsimp only at hSw); go_simp; try rfl)
            try simp only [Act.put, List.setIfInBounds_toArray, List.set_cons_zero, List.set_cons_succ, List.getElem_toArray, List.getElem_cons_zero, List.getElem_cons_succ]
            refine wpAnyH_done (by kernel_rfl) ?_ _
            have hw10 : Below w8.heap.size w8 w10 := by assumption
            have HW10 := Lib.hid hw10
            clear hw10
            go_wp2
            go_loopw [11] (fun i wr => ∃ k : Nat, k ≤ L.length ∧ i = .int .i64 k ∧ Hid (Below w8.heap.size w8 wr)) (fun i _ => L.length - (intOf i).toNat)
            case atStart => exact ⟨0, Nat.zero_le _, rfl, HW10⟩
            case round =>
              obtain ⟨k, hk, rfl, hB9⟩ := hrel
              by_cases hlt : k < L.length
              · obtain ⟨t, ht⟩ : ∃ t, txt (L.getD k []) = t := ⟨_, rfl⟩
                obtain ⟨g5, xv, rfl, hc5, kx, kx2⟩ := body_cell2 HX8.out.row hB9.out k hlt t ht
                obtain ⟨g6, yv, rfl, hc6, ky, ky2⟩ := body_cell2 HY8.out.row hB9.out k hlt t ht
                have hc5d : wr.drew.cell? ⟨g5, k, none⟩ = some xv := hc5
                have hc6d : wr.drew.cell? ⟨g6, k, none⟩ = some yv := hc6
                have q1 : (t.toList == t.toList) = true := by simp
                have q3 : (t.toList != t.toList) = false := by simp
                have hkn' : (k : Int) < (L.length : Int) := by omega
                clear ht
                go_wp2
                go_region
                go_wp2
                go_roundw
                case rel => exact ⟨k + 1, by omega, by go_num, Lib.hid (hB9.out.drew)⟩
                case measure => simp [intOf]; omega
              · obtain rfl : k = L.length := by omega
                go_wp2
                go_ret
                exact ⟨rfl, HB8.out.trans (hB9.out.mono HB8.out.size)⟩
theorem of_law (b : ByteArray) (a : Option Addr) (cap : Nat) (ss : List ByteArray) (w : World) (hs : SRd w a ss) (hz : ∀ s ∈ ss, s.size ≤ maxLen) (hb0 : b.size ≤ maxLen) :
    Calls Try.prog 7 #[.string b, .slice a ss.length cap] w fun e w' => e = .returned (.bool true) ∧ Below w.heap.size w w' := by
  have hb1 : b.size ≤ 9223372036854775807 := by unfold maxLen at hb0; exact hb0
  by_cases hf : (500 : Int) < b.size ∨ (60 : Int) < ss.length
  · exact of_far b a cap ss w hs hb1 hf
  · exact of_near b a cap ss w hs hz hb1 (fun h => hf (.inl h)) (fun h => hf (.inr h))
end Go.Proofs.Ytlanmgdekkblcaa
