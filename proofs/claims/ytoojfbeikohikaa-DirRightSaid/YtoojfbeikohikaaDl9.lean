/-
  Each path has its parent, whatever is done: what there is is a directory's, and of it the same one is made.
-/
import Derived.Test.YtoojfbeikohikaaDl3
namespace Go.Proofs.Ytoojfbeikohikaa
open Go.RowKit
set_option linter.unusedSimpArgs false
set_option linter.unusedVariables false

theorem vld_ne {p : ByteArray} (h : vld p = true) : p.toList ≠ [] := by
  rw [vld_pth h, Lib.toList_data]
  unfold pth
  rw [ofL_data]
  simp
set_option maxRecDepth 100000 in
set_option maxHeartbeats 4000000 in
theorem dirRight_walk (a : Option Addr) (n c : Nat) (ts : List Cm) (w : World) (hn : n = ts.length) (hC : CRd w a ts) (hm : ML w) :
    Calls Try.prog 3 #[.slice a n c] w fun e w' => e = .returned (.bool true) ∧ Below w.heap.size w w' := by
  obtain ⟨X, rfl⟩ : ∃ X : World, X = w := ⟨w, rfl⟩
  have hB : Below X.heap.size X X := Below.refl _ _
  have HN := Lib.hid hn
  have HMX := Lib.hid (hm.below hB)
  have HC := Lib.hid (hC.below hB)
  have HB := Lib.hid hB
  clear hn hm hC hB
  go_enter Try.func3, Try.ntmps3
  go_wp2_with fail
  refine (works_any _ HMX.out).mono ?_
  rintro e w1 ⟨rfl, hb⟩
  have HB1 := Lib.hid hb
  have HM1 := Lib.hid (HMX.out.below hb)
  clear hb HMX
  go_wp2_with fail
  refine (over_any a n c ts w1 HN.out (HC.out.below HB1.out)).mono ?_
  rintro e w' ⟨rfl, rfl⟩
  obtain ⟨O, hO⟩ : ∃ O, ovB ts = O := ⟨_, rfl⟩
  rw [hO]
  have HO := Lib.hid hO
  clear hO
  cases O with
  | true =>
    go_wp2
    go_ret
    exact ⟨rfl, HB.out.trans (HB1.out.mono HB.out.size)⟩
  | false =>
    have hov := ovB_no HO.out
    have hn60 : n ≤ 60 := by have := HN.out; omega
    have HS := Lib.hid hov.2
    clear hov HO
    go_wp2_with fail
    refine (lw_new HB1.out HM1.out).mono ?_
    rintro e w2 ⟨d, bk, he, hL⟩
    have he := he.out
    subst he
    have HL0 : Hid (LW X d bk 0 (runD [] (ts.take 0)) w2) := Lib.hid (by simpa [runD] using hL)
    clear hL HM1
    go_wp2_with fail
    go_loopw [5] (fun i wr => ∃ k : Nat, k ≤ n ∧ i = .int .i64 k ∧ Hid (LW X d bk (k) (runD [] (ts.take k)) wr)) (fun i _ => n - (intOf i).toNat)
    case atStart => exact ⟨0, Nat.zero_le _, rfl, HL0⟩
    case round =>
      clear HL0
      obtain ⟨k, hk, rfl, hL⟩ := hrel
      by_cases hlt : k < n
      · have hlt' : (k : Int) < (n : Int) := by omega
        have hkl : k < ts.length := by have := HN.out; omega
        rcases (HC.out.below hL.out.below).2 with h0 | ⟨g, off, ha, hg, hcm⟩
        · exfalso
          rw [h0] at hkl
          simp at hkl
        have hcm1 := hcm k hkl
        have hsz := (HS.out k hkl).1
        have hrs := runD_succ [] ts k hkl
        obtain ⟨t, ht⟩ : ∃ t, ts.getD k default = t := ⟨_, rfl⟩
        rw [ht] at hcm1 hsz hrs
        have HP := Lib.hid (show t.pa.size ≤ 1000 by omega)
        have HRS := Lib.hid hrs
        obtain ⟨m0, m1, m2, m3, m4, m5, m6, m7⟩ := hcm1
        subst ha
        clear hcm ht hsz hrs hg
        go_wp2_with fail
        refine (lw_apply hL.out t.cl t.sq t.op t.pa t.va t.ver t.a t.b (by omega) HP.out).mono ?_
        rintro e w5 ⟨v5, he, ho, hL5, hg5⟩
        have he := he.out
        subst he
        rw [← HRS.out] at hL5
        have HL5 := Lib.hid hL5
        clear hL ho hL5 hg5 m0 m1 m2 m3 m4 m5 m6 m7
        go_wp2
        go_roundw
        case rel => exact ⟨k + 1, by omega, by go_num, HL5⟩
        case measure => simp [intOf]; omega
      · obtain rfl : k = n := by omega
        have hlt' : ¬ (k : Int) < (k : Int) := by omega
        obtain ⟨l, hl⟩ : ∃ l, runD [] (ts.take k) = l := ⟨_, rfl⟩
        rw [hl] at hL
        have Hl := Lib.hid hl
        have HL : Hid (LW X d bk (60) l wr) := Lib.hid (hL.out.mono (by omega))
        clear hL hl hlt
        have HR0 := Lib.hid HL.out.right
        have HLN : Hid (l.length ≤ 60) := Lib.hid HL.out.len
        go_wp2_with fail
        refine (entries_any _ _ _ _ _ HL.out.dir (by omega) HL.out.ml).mono ?_
        rintro e w3 ⟨v3, he, ho, hb⟩
        have he := he.out
        subst he
        have HO3 := Lib.hid ho.rd
        have HL3 := Lib.hid (HL.out.on hb)
        clear ho hb HL
        obtain ⟨a3, c3, hv3⟩ := HO3.out.slice
        obtain ⟨N3, hN3⟩ : ∃ N, l.length = N := ⟨_, rfl⟩
        rw [hN3] at hv3
        subst hv3
        have HN3 := Lib.hid hN3
        clear hN3
        go_wp2_with fail
        refine (ofd_any _ _ _ _ _ HO3.out (by have := HLN.out; omega) HR0.out HL3.out.ml).mono ?_
        rintro e w4 ⟨he, hd, hb⟩
        have he := he.out
        subst he
        obtain ⟨d4, hd4⟩ : ∃ d, w3.heap.size + 1 = d := ⟨_, rfl⟩
        obtain ⟨b4, hb4⟩ : ∃ b, w3.heap.size = b := ⟨_, rfl⟩
        rw [hd4] at hd ⊢
        rw [hb4] at hd
        have HD4 := Lib.hid hd
        have HO4 := Lib.hid (HO3.out.below hb)
        have HL4 := Lib.hid (HL3.out.on hb)
        clear hd hb hd4 hb4 HL3 HO3
        go_wp2_with fail
        refine (entries_any _ _ _ _ _ HD4.out (by have := HLN.out; omega) HL4.out.ml).mono ?_
        rintro e w5 ⟨v5, he, ho, hb⟩
        have he := he.out
        subst he
        have HO5 := Lib.hid ho.rd
        have HO4b := Lib.hid (HO4.out.below hb)
        have HL5 := Lib.hid (HL4.out.on hb)
        clear ho hb HL4 HO4 HD4
        go_wp2_with fail
        refine (rowD_any v5 (.slice a3 N3 c3) l l w5 HO5.out HO4b.out (by have := HLN.out; omega) (by have := HLN.out; omega)).mono ?_
        rw [decide_eq_true (rfl : l = l)]
        rintro e w6 ⟨rfl, hb⟩
        have HO6 := Lib.hid (HO4b.out.below hb)
        have HL6 := Lib.hid (HL5.out.on hb)
        clear hb HL5 HO4b HO5
        have hlen := len_any _ _ _ _ w6 HL6.out.dir
        rw [HN3.out] at hlen
        have HLEN := Lib.hid hlen
        clear hlen
        have n3 : N3 ≤ 60 := by have := HLN.out; have := HN3.out; omega
        have n3i : (N3 : Int) ≤ 60 := by omega
        have n3e : ((N3 : Int) != (N3 : Int)) = false := by simp
        go_wp2_with fail
        refine HLEN.out.mono ?_
        rintro e w7 ⟨rfl, hb⟩
        have HO7 := Lib.hid (HO6.out.below hb)
        have HL7 : Hid (LW X d bk (60 + 0) l w7) := Lib.hid (HL6.out.on hb)
        clear hb HL6 HO6 HLEN
        go_wp2_with fail
        go_loopw [9] (fun i wr => ∃ k : Nat, k ≤ N3 ∧ i = .int .i64 k ∧ Hid (LW X d bk (60 + k) l wr) ∧ Hid (EK.Rd wr (.slice a3 N3 c3) l)) (fun i _ => N3 - (intOf i).toNat)
        case atStart => exact ⟨0, Nat.zero_le _, rfl, HL7, HO7⟩
        case round =>
          clear HL7 HO7 n3e
          obtain ⟨k, hk, rfl, hL, hO⟩ := hrel
          by_cases hlt : k < N3
          · have hlt' : (k : Int) < (N3 : Int) := by omega
            obtain ⟨en, g5, o5, hae, hg5, t0, t1, t2, hkl⟩ := entCell hO.out k hlt
            obtain ⟨⟨p, v, m⟩, hE⟩ : ∃ E, l.getD k EK.d = E := ⟨_, rfl⟩
            rw [hE] at t0 t1 t2
            have hE2 : l[k] = (p, v, m) := by rw [← hE]; simp [List.getD, hkl]
            have hmem : (p, v, m) ∈ l := by rw [← hE2]; exact List.getElem_mem hkl
            have hokp := HR0.out.keys _ hmem
            have hps := okP_size hokp
            have hup := HR0.out.up _ hmem
            have hver := HR0.out.vers _ hmem
            have hvp := (pth_vld (okN_dropLast (nm_ok p))).1
            rw [← par_eq hokp.2] at hvp
            have hgt : (appD l 4 (par p) v0 0).1.err = 0 := by
              rw [app4 hvp]
              unfold gtD
              rw [if_pos hup]
            have hne := vld_ne hvp
            obtain ⟨up, hpar⟩ : ∃ up, par p = up := ⟨_, rfl⟩
            rw [hpar] at hgt hne
            have HGT := Lib.hid hgt
            have HUS : Hid (up.size ≤ 1000) := Lib.hid (by rw [← hpar]; exact par_size p)
            have HPC := Lib.hid (parent_any p wr hps hL.out.ml)
            rw [hpar] at HPC
            have q1 : (up.toList == []) = false := by simpa using hne
            have q2 : up.toList.isEmpty = false := by simpa using hne
            have m1 : ¬ m < 1 := by simpa using hver
            subst hae
            clear hE hE2 hmem hokp hps hup hvp hgt hpar t1 en hver hne
            go_wp2_with fail
            refine HPC.out.mono ?_
            rintro e w8 ⟨rfl, hb⟩
            have HL8 := Lib.hid (hL.out.on hb)
            have HO8 := Lib.hid (hO.out.below hb)
            have u2 := (hb.cell (p := ⟨g5, o5 + k * 3 + 2, none⟩) hg5).trans t2
            clear hb hL hO t0 t2 HPC
            go_wp2_with fail
            refine (lw_apply HL8.out 0 0 4 up v0 0 0 0 (by omega) HUS.out).mono ?_
            obtain ⟨⟨⟨er9, vl9, vr9, ns9⟩, l9⟩, hR9⟩ : ∃ R, appD l 4 up v0 0 = R := ⟨_, rfl⟩
            rw [hR9]
            have HE9 := Lib.hid hR9
            rintro e w9 ⟨v9, he, ho, hL9, hg9⟩
            have he := he.out
            subst he
            obtain ⟨a9, c9, hv9⟩ := ho.slice
            obtain ⟨M9, hM9⟩ : ∃ M, (List.map Value.string ns9).length = M := ⟨_, rfl⟩
            simp only at hv9 ho
            rw [hM9] at hv9
            subst hv9
            have HM9 : Hid (ns9.length = M9) := Lib.hid (by rw [← hM9]; simp)
            have hn9 := ho.nms (by rw [HM9.out]; exact hM9 ▸ own1_small ho)
            obtain ⟨Z9, hZ9⟩ : ∃ Z, w9.alloc (.cells #[.int .i64 er9, .string vl9, .int .i64 vr9, .slice a9 M9 c9] 30) = Z := ⟨_, rfl⟩
            obtain ⟨g9, hgg9⟩ : ∃ g, w9.heap.size = g := ⟨_, rfl⟩
            have HB9 : Hid (RB g9 ⟨er9, vl9, vr9, ns9⟩ Z9) := Lib.hid (by rw [← hZ9, ← hgg9]; exact RB.mk' _ hn9)
            have HL9 := Lib.hid (hL9.box #[.int .i64 er9, .string vl9, .int .i64 vr9, .slice a9 M9 c9] 30)
            rw [hZ9] at HL9
            have HO9 := Lib.hid ((HO8.out.out hg9 HL8.out.ne).below ((Below.refl _ _).alloc (Nat.le_refl _) (.cells #[.int .i64 er9, .string vl9, .int .i64 vr9, .slice a9 M9 c9] 30)))
            rw [hZ9] at HO9
            have u9 : Z9.cell? ⟨g5, o5 + k * 3 + 2, none⟩ = some (.int .i64 m) := by
              rw [← hZ9]
              have h1 := hg9.cell u2 (by simpa using HL8.out.ne _ _ _ u2)
              exact ((Below.refl w9.heap.size w9).alloc (Nat.le_refl _) _).cell (p := ⟨g5, o5 + k * 3 + 2, none⟩) (World.block_lt_of_cell? w9 _ h1) |>.trans h1
            clear u2 HL8 HO8 ho hL9 hg9 hR9 hn9 hM9
            have hl9 : l9 = l := by
              have := (gt_names l up v0 0).2
              rw [HE9.out] at this
              exact this
            have her : er9 = 0 := by have := HGT.out; rw [HE9.out] at this; exact this
            subst hl9
            subst her
            clear HE9 HGT
            have t0 := HB9.out.c0
            simp only at t0
            have HLf : Hid (LW X d bk (60 + (k + 1)) l9 Z9) := HL9
            clear HL9
            go_wp2_with fail
            try rw [hZ9]
            try rw [hgg9]
            clear hZ9 hgg9
            go_wp2
            go_roundw
            case rel => exact ⟨k + 1, by omega, by go_num, HLf, HO9⟩
            case measure => simp [intOf]; omega
          · obtain rfl : k = N3 := by omega
            have hlt' : ¬ (k : Int) < (k : Int) := by omega
            clear hlt
            go_wp2
            go_ret
            exact ⟨rfl, HB.out.trans (hL.out.below.mono HB.out.size)⟩
end Go.Proofs.Ytoojfbeikohikaa
