/-
 What the document reads: a record.
-/
import Derived.Test.YtnancdbkmompdaaGreatRY
import Derived.Test.YtnancdbkmompdaaGreatCh8R
import Derived.Test.YtnancdbkmompdaaGreatRQI
namespace Go.Proofs.YtnancdbkmompdaaGreat
open Go.RowKit
set_option linter.unusedSimpArgs false
set_option linter.unusedVariables false
set_option maxRecDepth 100000
set_option maxHeartbeats 40000000
theorem rget_a (s : ByteArray) (w : World) (hs : s.size ≤ 1000000000) (s0 : RSt) (g0 : gNum (byt s, 0) = (0, s0)) (hq : s0.2 = 0) :
  Calls Tryz.prog 22 #[.string s] w (GrG (byt s) w) := by
 obtain ⟨x0, e0⟩ := s0
 simp only at hq
 subst hq
 obtain ⟨⟨n1, n2, n3⟩, s1, g1⟩ : ∃ b t, idC.rd (x0, 0) = (b, t) := ⟨_, _, rfl⟩
 obtain ⟨xi, s2, g2⟩ : ∃ b t, inC.rd s1 = (b, t) := ⟨_, _, rfl⟩
 have hE : rcRd (byt s, 0) = ((false, (n1, n2, n3), xi, zSnp), s2) := by
  unfold rcRd rc0Rd
  rw [g0]
  simp only [g1, g2, if_true]
 have HE6 := Hd hE
 have HIv := Hd (rc_inv (byt s) (byt_range s))
 rw [hE] at HIv
 have G0 := Hd g0
 have G1 := Hd g1
 have G2 := Hd g2
 obtain ⟨hb1, hb2, hb3, hb4⟩ := four_boxes w s 81 [.bool false, .int .i64 0, .int .i64 0, .int .i64 0, .int .i64 0, .int .i64 0, .int .i64 0, .int .i64 0, .int .i64 0, .int .i64 0, .int .i64 0, .int .i64 0, .string ⟨#[]⟩, .string ⟨#[]⟩, .int .i64 0, .int .i64 0, .int .i64 0, .int .i64 0, .slice none 0 0, .int .i64 0, .slice none 0 0, .slice none 0 0, .slice none 0 0]
 have HE := Hd hb1
 have HZ1 := Hd hb2
 have HB1 := Hd hb3
 have HS1 := Hd hb4
 have HE0 := Hd (HE.out.setRow [.bool false, .int .i64 0, .int .i64 0, .int .i64 0, .int .i64 0, .int .i64 0, .int .i64 0, .int .i64 0, .int .i64 0, .int .i64 0, .int .i64 0, .int .i64 0, .string ⟨#[]⟩, .string ⟨#[]⟩, .int .i64 0, .int .i64 0, .int .i64 0, .int .i64 0, .slice none 0 0, .int .i64 0, .slice none 0 0, .slice none 0 0, .slice none 0 0])
 have HXi0 : Hid ((Tryz.prog.info? 81).map (·.size) = some 23) := Hd (by kernel_rfl)
 have c0 := HE0.out.ci
 clear hb1 hb2 hb3 hb4 hE g0 g1 g2
 go_enter Tryz.func22, Tryz.ntmps22
 go_wp2_with (refine wpList_store_row rfl 81 _ _ rfl (w.heap.size + 1 + 1 + 1) rfl #[.bool false, .int .i64 0, .int .i64 0, .int .i64 0, .int .i64 0, .int .i64 0, .int .i64 0, .int .i64 0, .int .i64 0, .int .i64 0, .int .i64 0, .int .i64 0, .string ⟨#[]⟩, .string ⟨#[]⟩, .int .i64 0, .int .i64 0, .int .i64 0, .int .i64 0, .slice none 0 0, .int .i64 0, .slice none 0 0, .slice none 0 0, .slice none 0 0] rfl #[.bool false, .int .i64 0, .int .i64 0, .int .i64 0, .int .i64 0, .int .i64 0, .int .i64 0, .int .i64 0, .int .i64 0, .int .i64 0, .int .i64 0, .int .i64 0, .string ⟨#[]⟩, .string ⟨#[]⟩, .int .i64 0, .int .i64 0, .int .i64 0, .int .i64 0, .slice none 0 0, .int .i64 0, .slice none 0 0, .slice none 0 0, .slice none 0 0] 81 HE.out.bx HXi0.out rfl (by rw [← Array.all_toList]; rfl) ?_)
 clear HE
 have HE := HE0
 clear HE0
 refine (inumE (w.heap.size + 1) s _ _ _ _ HE.out.rd hs G0.out).mono ?_
 rintro e u1 ⟨he, h1, h2⟩
 rw [he.out]
 have HJ := Hd (HE.out.call h1 h2)
 have ce := HJ.out.ce
 simp only at ce
 have HK := HJ
 clear HE HJ c0 he h1 h2
 have c0 := HK.out.ci
 have HE := HK
 clear HK
 generalize (((w.alloc (.cells [.bool false, .int .i64 0, .int .i64 0, .int .i64 0, .int .i64 0, .int .i64 0, .int .i64 0, .int .i64 0, .int .i64 0, .int .i64 0, .int .i64 0, .int .i64 0, .string ⟨#[]⟩, .string ⟨#[]⟩, .int .i64 0, .int .i64 0, .int .i64 0, .int .i64 0, .slice none 0 0, .int .i64 0, .slice none 0 0, .slice none 0 0, .slice none 0 0].toArray 81)).alloc (.cells #[.string s, .int .i64 0, .int .i64 0] 108)).alloc (.cells #[.pointer (some ⟨w.heap.size + 1, 0, none⟩)] 110)) = W1 at HE HZ1 HB1 HS1
 go_wp2_with fail
 clear ce
 refine (iid (w.heap.size + 1) s _ _ n1 n2 n3 _ HE.out.rd hs G1.out).mono ?_
 rintro e u2 ⟨he, h1, h2⟩
 rw [he.out]
 have HJ := Hd (HE.out.call h1 h2)
 have HTh := Hd (HJ.out.bx.there 1 3 (Nat.le_of_ble_eq_true rfl))
 obtain ⟨v2, hv⟩ : ∃ q, u2.setCells (w.heap.size + 1 + 1 + 1) 1 [.int .i64 n1, .int .i64 n2, .int .i64 n3] = q := ⟨_, rfl⟩
 have HK := Hd (HJ.out.sets 1 [.int .i64 n1, .int .i64 n2, .int .i64 n3])
 simp only [splice, List.set_cons_zero, List.set_cons_succ] at HK
 rw [hv] at HK
 have HV := Hd hv
 clear hv
 clear HE HJ c0 he h1 h2
 have c0 := HK.out.ci
 have HE := HK
 clear HK
 go_wp2_with (refine wpList_store_nm rfl 49 _ _ rfl (w.heap.size + 1 + 1 + 1) 1 #[.int .i64 n1, .int .i64 n2, .int .i64 n3] rfl rfl HTh.out (by kernel_rfl) (by rw [← Array.all_toList]; rfl) HV.out ?_)
 clear HV HTh
 refine (iinst (w.heap.size + 1) s s1 _ HE.out.rd hs).mono ?_
 rintro e u3 ⟨⟨m8, ⟨m9, m10⟩, ⟨m11, m12⟩, ⟨m13, m14, m15, m16, m17, m18, m19, m20⟩, m21, l22⟩, a22, d22, f22, he, hr22, hy, h1, h2⟩
 rw [he.out]
 rw [G2.out] at hy h1
 have HYI := Hd hy
 have HR22 := Hd hr22
 obtain ⟨q22, hq22⟩ : ∃ q, q = v2.heap.size := ⟨_, rfl⟩
 rw [← hq22] at HR22
 have HR22b : Hid (w.heap.size + 1 + 1 + 1 < q22) := Hd (by have := HE.out.sz; omega)
 clear hy hr22 hq22
 have HJ := Hd (HE.out.call h1 h2)
 have HTh := Hd (HJ.out.bx.there 4 15 (Nat.le_of_ble_eq_true rfl))
 obtain ⟨v3, hv⟩ : ∃ q, u3.setCells (w.heap.size + 1 + 1 + 1) 4 [.int .i64 m8, .int .i64 m9, .int .i64 m10, .int .i64 m11, .int .i64 m12, .int .i64 m13, .int .i64 m14, .int .i64 m15, .string m16, .string m17, .int .i64 m18, .int .i64 m19, .int .i64 m20, .int .i64 m21, .slice a22 d22 f22] = q := ⟨_, rfl⟩
 have HK := Hd (HJ.out.sets 4 [.int .i64 m8, .int .i64 m9, .int .i64 m10, .int .i64 m11, .int .i64 m12, .int .i64 m13, .int .i64 m14, .int .i64 m15, .string m16, .string m17, .int .i64 m18, .int .i64 m19, .int .i64 m20, .int .i64 m21, .slice a22 d22 f22])
 simp only [splice, List.set_cons_zero, List.set_cons_succ] at HK
 rw [hv] at HK
 have HV := Hd hv
 clear hv
 clear HE HJ c0 he h1 h2
 have c0 := HK.out.ci
 have HE := HK
 clear HK
 have HR22x := Hd (HR22.out.sets (b := w.heap.size + 1 + 1 + 1) (by have := HR22b.out; omega) 4 [.int .i64 m8, .int .i64 m9, .int .i64 m10, .int .i64 m11, .int .i64 m12, .int .i64 m13, .int .i64 m14, .int .i64 m15, .string m16, .string m17, .int .i64 m18, .int .i64 m19, .int .i64 m20, .int .i64 m21, .slice a22 d22 f22])
 rw [HV.out] at HR22x
 clear HR22
 have HR22 := HR22x
 clear HR22x
 go_wp2_with (refine wpList_store_nm rfl 59 _ _ rfl (w.heap.size + 1 + 1 + 1) 4 #[.int .i64 m8, .int .i64 m9, .int .i64 m10, .int .i64 m11, .int .i64 m12, .int .i64 m13, .int .i64 m14, .int .i64 m15, .string m16, .string m17, .int .i64 m18, .int .i64 m19, .int .i64 m20, .int .i64 m21, .slice a22 d22 f22] rfl rfl HTh.out (by kernel_rfl) (by rw [← Array.all_toList]; rfl) HV.out ?_)
 clear HV HTh
 refine (dend (w.heap.size + 1) s _ _ HE.out.rd).mono ?_
 rintro e wx ⟨he, h1⟩
 rw [he.out]
 have HXr := Hd (HE.out.bx.below h1)
 have HZr := Hd ((HZ1.out.fo HE.out.fo (by omega)).below h1)
 have hv7 := HE.out.fo.size
 have hBx : Below w.heap.size w wx := by
  have f := HE.out.fo
  have b := HB1.out
  exact ⟨h1.os.trans (f.os.trans b.os), h1.tape.trans (f.tape.trans b.tape), h1.output.trans (f.output.trans b.output), Nat.le_trans b.size (Nat.le_trans f.size h1.size), fun k hk => (h1.block k (by have := b.size; omega)).trans ((f.block k (by have := b.size; omega) (by omega)).trans (b.block k hk))⟩
 have HBx := Hd hBx
 have HRx := Hd h1
 clear he h1 hBx c0 hv7
 have HXi : Hid ((Tryz.prog.info? 81).map (·.size) = some 23) := Hd (by kernel_rfl)
 obtain ⟨er, her⟩ : ∃ er, endE s2 = er := ⟨_, rfl⟩
 have HEr := Hd her
 rw [her]
 clear her
 by_cases q : er = 0
 ·subst q
  have hEn := endE_ok HEr.out
  have HEn := Hd hEn
  have HLv := Hd (run_loadVar_row (wx.setRow w.heap.size #[.bool false, .int .i64 n1, .int .i64 n2, .int .i64 n3, .int .i64 m8, .int .i64 m9, .int .i64 m10, .int .i64 m11, .int .i64 m12, .int .i64 m13, .int .i64 m14, .int .i64 m15, .string m16, .string m17, .int .i64 m18, .int .i64 m19, .int .i64 m20, .int .i64 m21, .slice a22 d22 f22, .int .i64 0, .slice none 0 0, .slice none 0 0, .slice none 0 0]) _ _ _ #[.bool false, .int .i64 n1, .int .i64 n2, .int .i64 n3, .int .i64 m8, .int .i64 m9, .int .i64 m10, .int .i64 m11, .int .i64 m12, .int .i64 m13, .int .i64 m14, .int .i64 m15, .string m16, .string m17, .int .i64 m18, .int .i64 m19, .int .i64 m20, .int .i64 m21, .slice a22 d22 f22, .int .i64 0, .slice none 0 0, .slice none 0 0, .slice none 0 0] (0, 0) _ (heap_setRow_same _ _ #[.bool false, .int .i64 0, .int .i64 0, .int .i64 0, .int .i64 0, .int .i64 0, .int .i64 0, .int .i64 0, .int .i64 0, .int .i64 0, .int .i64 0, .int .i64 0, .string ⟨#[]⟩, .string ⟨#[]⟩, .int .i64 0, .int .i64 0, .int .i64 0, .int .i64 0, .slice none 0 0, .int .i64 0, .slice none 0 0, .slice none 0 0, .slice none 0 0] #[.bool false, .int .i64 n1, .int .i64 n2, .int .i64 n3, .int .i64 m8, .int .i64 m9, .int .i64 m10, .int .i64 m11, .int .i64 m12, .int .i64 m13, .int .i64 m14, .int .i64 m15, .string m16, .string m17, .int .i64 m18, .int .i64 m19, .int .i64 m20, .int .i64 m21, .slice a22 d22 f22, .int .i64 0, .slice none 0 0, .slice none 0 0, .slice none 0 0] _ HZr.out) Tryz.underlying81 rfl HXi.out)
  have HBf := Hd (below_setRow HBx.out (Nat.le_refl _) #[.bool false, .int .i64 n1, .int .i64 n2, .int .i64 n3, .int .i64 m8, .int .i64 m9, .int .i64 m10, .int .i64 m11, .int .i64 m12, .int .i64 m13, .int .i64 m14, .int .i64 m15, .string m16, .string m17, .int .i64 m18, .int .i64 m19, .int .i64 m20, .int .i64 m21, .slice a22 d22 f22, .int .i64 0, .slice none 0 0, .slice none 0 0, .slice none 0 0])
  have HMf : Hid (∀ w'' : World, (∀ k, w.heap.size ≤ k → k < (wx.setRow w.heap.size #[.bool false, .int .i64 n1, .int .i64 n2, .int .i64 n3, .int .i64 m8, .int .i64 m9, .int .i64 m10, .int .i64 m11, .int .i64 m12, .int .i64 m13, .int .i64 m14, .int .i64 m15, .string m16, .string m17, .int .i64 m18, .int .i64 m19, .int .i64 m20, .int .i64 m21, .slice a22 d22 f22, .int .i64 0, .slice none 0 0, .slice none 0 0, .slice none 0 0]).heap.size → w''.heap[k]? = (wx.setRow w.heap.size #[.bool false, .int .i64 n1, .int .i64 n2, .int .i64 n3, .int .i64 m8, .int .i64 m9, .int .i64 m10, .int .i64 m11, .int .i64 m12, .int .i64 m13, .int .i64 m14, .int .i64 m15, .string m16, .string m17, .int .i64 m18, .int .i64 m19, .int .i64 m20, .int .i64 m21, .slice a22 d22 f22, .int .i64 0, .slice none 0 0, .slice none 0 0, .slice none 0 0]).heap[k]?) → RecIs w'' (.agg #[.bool false, .int .i64 n1, .int .i64 n2, .int .i64 n3, .int .i64 m8, .int .i64 m9, .int .i64 m10, .int .i64 m11, .int .i64 m12, .int .i64 m13, .int .i64 m14, .int .i64 m15, .string m16, .string m17, .int .i64 m18, .int .i64 m19, .int .i64 m20, .int .i64 m21, .slice a22 d22 f22, .int .i64 0, .slice none 0 0, .slice none 0 0, .slice none 0 0]) (false, (n1, n2, n3), xi, zSnp)) := Hd (fun w'' hw'' => by
  have z6 : s2.2 = 0 := HEn.out.1
  have ei := HYI.out z6
  have ho := (HIv.out z6).1
  rw [← ei] at ho
  have hk' : ∀ (N : Nat) (T : TypeId) (k : Nat), w.heap.size < N → N ≤ k → (Ty wx k 9 ∨ Ty wx k T) → w''.heap[k]? = wx.heap[k]? := fun N T k hN h hq => (hw'' k (by omega) (by rw [(sx_setRow _ w.heap.size _).size]; rcases hq with ⟨cs, fr, q⟩ | ⟨cs, fr, q⟩ <;> exact (Array.getElem?_eq_some_iff.1 q).1)).trans ((sx_setRow _ w.heap.size _).block k (by omega))
  have h22 := (HR22.out.under HRx.out).keep (fun k => hk' _ _ k (by have := HR22b.out; have := HS1.out; omega))
  unfold rcFs rc0Fs at ho
  simp only [Bool.false_eq_true, if_false, inC, atC, cmC, oks_cons, pairC_fs, oks_app] at ho
  obtain ⟨_, _, _, _, _, ⟨_, _, _, t16, t17, _⟩, _, o22⟩ := ho
  obtain ⟨rs22, g22⟩ := OwnR.row (S := idS) h22 (fun cs x _ hq => hq)
  rw [← ei]
  exact ⟨_, rfl, rc_mk (x := (false, (n1, n2, n3), (m8, (m9, m10), (m11, m12), (m13, m14, m15, m16, m17, m18, m19, m20), m21, l22), zSnp)) (in_mk (tx_max t16) (tx_max t17) g22) (sn_zero w'')⟩)
  clear hEn
  go_wp2_with (first | (refine wpList_load_row rfl _ _ rfl (w.heap.size + 1 + 1 + 1) rfl 81 #[.bool false, .int .i64 n1, .int .i64 n2, .int .i64 n3, .int .i64 m8, .int .i64 m9, .int .i64 m10, .int .i64 m11, .int .i64 m12, .int .i64 m13, .int .i64 m14, .int .i64 m15, .string m16, .string m17, .int .i64 m18, .int .i64 m19, .int .i64 m20, .int .i64 m21, .slice a22 d22 f22, .int .i64 0, .slice none 0 0, .slice none 0 0, .slice none 0 0] (0, 0) _ HXr.out Tryz.underlying81 rfl HXi.out ?_) | (refine wpList_store_row rfl 81 _ _ rfl w.heap.size rfl #[.bool false, .int .i64 n1, .int .i64 n2, .int .i64 n3, .int .i64 m8, .int .i64 m9, .int .i64 m10, .int .i64 m11, .int .i64 m12, .int .i64 m13, .int .i64 m14, .int .i64 m15, .string m16, .string m17, .int .i64 m18, .int .i64 m19, .int .i64 m20, .int .i64 m21, .slice a22 d22 f22, .int .i64 0, .slice none 0 0, .slice none 0 0, .slice none 0 0] rfl #[.bool false, .int .i64 0, .int .i64 0, .int .i64 0, .int .i64 0, .int .i64 0, .int .i64 0, .int .i64 0, .int .i64 0, .int .i64 0, .int .i64 0, .int .i64 0, .string ⟨#[]⟩, .string ⟨#[]⟩, .int .i64 0, .int .i64 0, .int .i64 0, .int .i64 0, .slice none 0 0, .int .i64 0, .slice none 0 0, .slice none 0 0, .slice none 0 0] 81 HZr.out HXi.out rfl (by rw [← Array.all_toList]; rfl) ?_))
  have hlv := HLv.out
  exact bodyPost_ret (v := .tuple #[.agg #[.bool false, .int .i64 n1, .int .i64 n2, .int .i64 n3, .int .i64 m8, .int .i64 m9, .int .i64 m10, .int .i64 m11, .int .i64 m12, .int .i64 m13, .int .i64 m14, .int .i64 m15, .string m16, .string m17, .int .i64 m18, .int .i64 m19, .int .i64 m20, .int .i64 m21, .slice a22 d22 f22, .int .i64 0, .slice none 0 0, .slice none 0 0, .slice none 0 0], .int .i64 0]) (by simp [results, Tryz.results22, asAddr, Act.put, hlv]) rfl (by unfold GrG; rw [HE6.out]; exact ⟨_, Hd (by rw [HEr.out]), HBf.out, .inl ⟨HEr.out, HMf.out⟩⟩)
 ·have q1 : (er == 0) = false := by simpa using q
  have q2 : (er != 0) = true := by simpa using q
  have HQ := Hd q
  have HLv := Hd (run_loadVar_row (wx.setRow w.heap.size #[.bool false, .int .i64 0, .int .i64 0, .int .i64 0, .int .i64 0, .int .i64 0, .int .i64 0, .int .i64 0, .int .i64 0, .int .i64 0, .int .i64 0, .int .i64 0, .string ⟨#[]⟩, .string ⟨#[]⟩, .int .i64 0, .int .i64 0, .int .i64 0, .int .i64 0, .slice none 0 0, .int .i64 0, .slice none 0 0, .slice none 0 0, .slice none 0 0]) _ _ _ #[.bool false, .int .i64 0, .int .i64 0, .int .i64 0, .int .i64 0, .int .i64 0, .int .i64 0, .int .i64 0, .int .i64 0, .int .i64 0, .int .i64 0, .int .i64 0, .string ⟨#[]⟩, .string ⟨#[]⟩, .int .i64 0, .int .i64 0, .int .i64 0, .int .i64 0, .slice none 0 0, .int .i64 0, .slice none 0 0, .slice none 0 0, .slice none 0 0] (0, 0) _ (heap_setRow_same _ _ #[.bool false, .int .i64 0, .int .i64 0, .int .i64 0, .int .i64 0, .int .i64 0, .int .i64 0, .int .i64 0, .int .i64 0, .int .i64 0, .int .i64 0, .int .i64 0, .string ⟨#[]⟩, .string ⟨#[]⟩, .int .i64 0, .int .i64 0, .int .i64 0, .int .i64 0, .slice none 0 0, .int .i64 0, .slice none 0 0, .slice none 0 0, .slice none 0 0] #[.bool false, .int .i64 0, .int .i64 0, .int .i64 0, .int .i64 0, .int .i64 0, .int .i64 0, .int .i64 0, .int .i64 0, .int .i64 0, .int .i64 0, .int .i64 0, .string ⟨#[]⟩, .string ⟨#[]⟩, .int .i64 0, .int .i64 0, .int .i64 0, .int .i64 0, .slice none 0 0, .int .i64 0, .slice none 0 0, .slice none 0 0, .slice none 0 0] _ HZr.out) Tryz.underlying81 rfl HXi.out)
  have HBf := Hd (below_setRow HBx.out (Nat.le_refl _) #[.bool false, .int .i64 0, .int .i64 0, .int .i64 0, .int .i64 0, .int .i64 0, .int .i64 0, .int .i64 0, .int .i64 0, .int .i64 0, .int .i64 0, .int .i64 0, .string ⟨#[]⟩, .string ⟨#[]⟩, .int .i64 0, .int .i64 0, .int .i64 0, .int .i64 0, .slice none 0 0, .int .i64 0, .slice none 0 0, .slice none 0 0, .slice none 0 0])
  clear q
  go_wp2_with (refine wpList_store_row rfl 81 _ _ rfl w.heap.size rfl #[.bool false, .int .i64 0, .int .i64 0, .int .i64 0, .int .i64 0, .int .i64 0, .int .i64 0, .int .i64 0, .int .i64 0, .int .i64 0, .int .i64 0, .int .i64 0, .string ⟨#[]⟩, .string ⟨#[]⟩, .int .i64 0, .int .i64 0, .int .i64 0, .int .i64 0, .slice none 0 0, .int .i64 0, .slice none 0 0, .slice none 0 0, .slice none 0 0] rfl #[.bool false, .int .i64 0, .int .i64 0, .int .i64 0, .int .i64 0, .int .i64 0, .int .i64 0, .int .i64 0, .int .i64 0, .int .i64 0, .int .i64 0, .int .i64 0, .string ⟨#[]⟩, .string ⟨#[]⟩, .int .i64 0, .int .i64 0, .int .i64 0, .int .i64 0, .slice none 0 0, .int .i64 0, .slice none 0 0, .slice none 0 0, .slice none 0 0] 81 HZr.out HXi.out rfl (by rw [← Array.all_toList]; rfl) ?_)
  have hlv := HLv.out
  exact bodyPost_ret (v := .tuple #[.agg #[.bool false, .int .i64 0, .int .i64 0, .int .i64 0, .int .i64 0, .int .i64 0, .int .i64 0, .int .i64 0, .int .i64 0, .int .i64 0, .int .i64 0, .int .i64 0, .string ⟨#[]⟩, .string ⟨#[]⟩, .int .i64 0, .int .i64 0, .int .i64 0, .int .i64 0, .slice none 0 0, .int .i64 0, .slice none 0 0, .slice none 0 0, .slice none 0 0], .int .i64 er]) (by simp [results, Tryz.results22, asAddr, Act.put, hlv]) rfl (by unfold GrG; rw [HE6.out]; exact ⟨.agg z23, Hd (by rw [HEr.out]; rfl), HBf.out, .inr ⟨by rw [HEr.out]; exact HQ.out, rfl⟩⟩)
theorem rget_b (s : ByteArray) (w : World) (hs : s.size ≤ 1000000000) (s0 : RSt) (g0 : gNum (byt s, 0) = (0, s0)) (hq : s0.2 ≠ 0) :
  Calls Tryz.prog 22 #[.string s] w (GrG (byt s) w) := by
 obtain ⟨x0, e0⟩ := s0
 simp only at hq
 have q1 : (e0 == 0) = false := by simpa using hq
 clear hq
 obtain ⟨⟨n1, n2, n3⟩, s1, g1⟩ : ∃ b t, idC.rd (x0, e0) = (b, t) := ⟨_, _, rfl⟩
 obtain ⟨xi, s2, g2⟩ : ∃ b t, inC.rd s1 = (b, t) := ⟨_, _, rfl⟩
 have hE : rcRd (byt s, 0) = ((false, (n1, n2, n3), xi, zSnp), s2) := by
  unfold rcRd rc0Rd
  rw [g0]
  simp only [g1, g2, if_true]
 have HE6 := Hd hE
 have HIv := Hd (rc_inv (byt s) (byt_range s))
 rw [hE] at HIv
 have G0 := Hd g0
 have G1 := Hd g1
 have G2 := Hd g2
 obtain ⟨hb1, hb2, hb3, hb4⟩ := four_boxes w s 81 [.bool false, .int .i64 0, .int .i64 0, .int .i64 0, .int .i64 0, .int .i64 0, .int .i64 0, .int .i64 0, .int .i64 0, .int .i64 0, .int .i64 0, .int .i64 0, .string ⟨#[]⟩, .string ⟨#[]⟩, .int .i64 0, .int .i64 0, .int .i64 0, .int .i64 0, .slice none 0 0, .int .i64 0, .slice none 0 0, .slice none 0 0, .slice none 0 0]
 have HE := Hd hb1
 have HZ1 := Hd hb2
 have HB1 := Hd hb3
 have HS1 := Hd hb4
 have HE0 := Hd (HE.out.setRow [.bool false, .int .i64 0, .int .i64 0, .int .i64 0, .int .i64 0, .int .i64 0, .int .i64 0, .int .i64 0, .int .i64 0, .int .i64 0, .int .i64 0, .int .i64 0, .string ⟨#[]⟩, .string ⟨#[]⟩, .int .i64 0, .int .i64 0, .int .i64 0, .int .i64 0, .slice none 0 0, .int .i64 0, .slice none 0 0, .slice none 0 0, .slice none 0 0])
 have HXi0 : Hid ((Tryz.prog.info? 81).map (·.size) = some 23) := Hd (by kernel_rfl)
 have c0 := HE0.out.ci
 clear hb1 hb2 hb3 hb4 hE g0 g1 g2
 go_enter Tryz.func22, Tryz.ntmps22
 go_wp2_with (refine wpList_store_row rfl 81 _ _ rfl (w.heap.size + 1 + 1 + 1) rfl #[.bool false, .int .i64 0, .int .i64 0, .int .i64 0, .int .i64 0, .int .i64 0, .int .i64 0, .int .i64 0, .int .i64 0, .int .i64 0, .int .i64 0, .int .i64 0, .string ⟨#[]⟩, .string ⟨#[]⟩, .int .i64 0, .int .i64 0, .int .i64 0, .int .i64 0, .slice none 0 0, .int .i64 0, .slice none 0 0, .slice none 0 0, .slice none 0 0] rfl #[.bool false, .int .i64 0, .int .i64 0, .int .i64 0, .int .i64 0, .int .i64 0, .int .i64 0, .int .i64 0, .int .i64 0, .int .i64 0, .int .i64 0, .int .i64 0, .string ⟨#[]⟩, .string ⟨#[]⟩, .int .i64 0, .int .i64 0, .int .i64 0, .int .i64 0, .slice none 0 0, .int .i64 0, .slice none 0 0, .slice none 0 0, .slice none 0 0] 81 HE.out.bx HXi0.out rfl (by rw [← Array.all_toList]; rfl) ?_)
 clear HE
 have HE := HE0
 clear HE0
 refine (inumE (w.heap.size + 1) s _ _ _ _ HE.out.rd hs G0.out).mono ?_
 rintro e u1 ⟨he, h1, h2⟩
 rw [he.out]
 have HJ := Hd (HE.out.call h1 h2)
 have ce := HJ.out.ce
 simp only at ce
 have HK := HJ
 clear HE HJ c0 he h1 h2
 have c0 := HK.out.ci
 have HE := HK
 clear HK
 generalize (((w.alloc (.cells [.bool false, .int .i64 0, .int .i64 0, .int .i64 0, .int .i64 0, .int .i64 0, .int .i64 0, .int .i64 0, .int .i64 0, .int .i64 0, .int .i64 0, .int .i64 0, .string ⟨#[]⟩, .string ⟨#[]⟩, .int .i64 0, .int .i64 0, .int .i64 0, .int .i64 0, .slice none 0 0, .int .i64 0, .slice none 0 0, .slice none 0 0, .slice none 0 0].toArray 81)).alloc (.cells #[.string s, .int .i64 0, .int .i64 0] 108)).alloc (.cells #[.pointer (some ⟨w.heap.size + 1, 0, none⟩)] 110)) = W1 at HE HZ1 HB1 HS1
 go_wp2_with fail
 clear ce
 refine (iid (w.heap.size + 1) s _ _ n1 n2 n3 _ HE.out.rd hs G1.out).mono ?_
 rintro e u2 ⟨he, h1, h2⟩
 rw [he.out]
 have HJ := Hd (HE.out.call h1 h2)
 have HTh := Hd (HJ.out.bx.there 1 3 (Nat.le_of_ble_eq_true rfl))
 obtain ⟨v2, hv⟩ : ∃ q, u2.setCells (w.heap.size + 1 + 1 + 1) 1 [.int .i64 n1, .int .i64 n2, .int .i64 n3] = q := ⟨_, rfl⟩
 have HK := Hd (HJ.out.sets 1 [.int .i64 n1, .int .i64 n2, .int .i64 n3])
 simp only [splice, List.set_cons_zero, List.set_cons_succ] at HK
 rw [hv] at HK
 have HV := Hd hv
 clear hv
 clear HE HJ c0 he h1 h2
 have c0 := HK.out.ci
 have HE := HK
 clear HK
 go_wp2_with (refine wpList_store_nm rfl 49 _ _ rfl (w.heap.size + 1 + 1 + 1) 1 #[.int .i64 n1, .int .i64 n2, .int .i64 n3] rfl rfl HTh.out (by kernel_rfl) (by rw [← Array.all_toList]; rfl) HV.out ?_)
 clear HV HTh
 refine (iinst (w.heap.size + 1) s s1 _ HE.out.rd hs).mono ?_
 rintro e u3 ⟨⟨m8, ⟨m9, m10⟩, ⟨m11, m12⟩, ⟨m13, m14, m15, m16, m17, m18, m19, m20⟩, m21, l22⟩, a22, d22, f22, he, hr22, hy, h1, h2⟩
 rw [he.out]
 rw [G2.out] at hy h1
 have HYI := Hd hy
 have HR22 := Hd hr22
 obtain ⟨q22, hq22⟩ : ∃ q, q = v2.heap.size := ⟨_, rfl⟩
 rw [← hq22] at HR22
 have HR22b : Hid (w.heap.size + 1 + 1 + 1 < q22) := Hd (by have := HE.out.sz; omega)
 clear hy hr22 hq22
 have HJ := Hd (HE.out.call h1 h2)
 have HTh := Hd (HJ.out.bx.there 4 15 (Nat.le_of_ble_eq_true rfl))
 obtain ⟨v3, hv⟩ : ∃ q, u3.setCells (w.heap.size + 1 + 1 + 1) 4 [.int .i64 m8, .int .i64 m9, .int .i64 m10, .int .i64 m11, .int .i64 m12, .int .i64 m13, .int .i64 m14, .int .i64 m15, .string m16, .string m17, .int .i64 m18, .int .i64 m19, .int .i64 m20, .int .i64 m21, .slice a22 d22 f22] = q := ⟨_, rfl⟩
 have HK := Hd (HJ.out.sets 4 [.int .i64 m8, .int .i64 m9, .int .i64 m10, .int .i64 m11, .int .i64 m12, .int .i64 m13, .int .i64 m14, .int .i64 m15, .string m16, .string m17, .int .i64 m18, .int .i64 m19, .int .i64 m20, .int .i64 m21, .slice a22 d22 f22])
 simp only [splice, List.set_cons_zero, List.set_cons_succ] at HK
 rw [hv] at HK
 have HV := Hd hv
 clear hv
 clear HE HJ c0 he h1 h2
 have c0 := HK.out.ci
 have HE := HK
 clear HK
 have HR22x := Hd (HR22.out.sets (b := w.heap.size + 1 + 1 + 1) (by have := HR22b.out; omega) 4 [.int .i64 m8, .int .i64 m9, .int .i64 m10, .int .i64 m11, .int .i64 m12, .int .i64 m13, .int .i64 m14, .int .i64 m15, .string m16, .string m17, .int .i64 m18, .int .i64 m19, .int .i64 m20, .int .i64 m21, .slice a22 d22 f22])
 rw [HV.out] at HR22x
 clear HR22
 have HR22 := HR22x
 clear HR22x
 go_wp2_with (refine wpList_store_nm rfl 59 _ _ rfl (w.heap.size + 1 + 1 + 1) 4 #[.int .i64 m8, .int .i64 m9, .int .i64 m10, .int .i64 m11, .int .i64 m12, .int .i64 m13, .int .i64 m14, .int .i64 m15, .string m16, .string m17, .int .i64 m18, .int .i64 m19, .int .i64 m20, .int .i64 m21, .slice a22 d22 f22] rfl rfl HTh.out (by kernel_rfl) (by rw [← Array.all_toList]; rfl) HV.out ?_)
 clear HV HTh
 refine (dend (w.heap.size + 1) s _ _ HE.out.rd).mono ?_
 rintro e wx ⟨he, h1⟩
 rw [he.out]
 have HXr := Hd (HE.out.bx.below h1)
 have HZr := Hd ((HZ1.out.fo HE.out.fo (by omega)).below h1)
 have hv7 := HE.out.fo.size
 have hBx : Below w.heap.size w wx := by
  have f := HE.out.fo
  have b := HB1.out
  exact ⟨h1.os.trans (f.os.trans b.os), h1.tape.trans (f.tape.trans b.tape), h1.output.trans (f.output.trans b.output), Nat.le_trans b.size (Nat.le_trans f.size h1.size), fun k hk => (h1.block k (by have := b.size; omega)).trans ((f.block k (by have := b.size; omega) (by omega)).trans (b.block k hk))⟩
 have HBx := Hd hBx
 have HRx := Hd h1
 clear he h1 hBx c0 hv7
 have HXi : Hid ((Tryz.prog.info? 81).map (·.size) = some 23) := Hd (by kernel_rfl)
 obtain ⟨er, her⟩ : ∃ er, endE s2 = er := ⟨_, rfl⟩
 have HEr := Hd her
 rw [her]
 clear her
 by_cases q : er = 0
 ·subst q
  have hEn := endE_ok HEr.out
  have HEn := Hd hEn
  have HLv := Hd (run_loadVar_row (wx.setRow w.heap.size #[.bool false, .int .i64 n1, .int .i64 n2, .int .i64 n3, .int .i64 m8, .int .i64 m9, .int .i64 m10, .int .i64 m11, .int .i64 m12, .int .i64 m13, .int .i64 m14, .int .i64 m15, .string m16, .string m17, .int .i64 m18, .int .i64 m19, .int .i64 m20, .int .i64 m21, .slice a22 d22 f22, .int .i64 0, .slice none 0 0, .slice none 0 0, .slice none 0 0]) _ _ _ #[.bool false, .int .i64 n1, .int .i64 n2, .int .i64 n3, .int .i64 m8, .int .i64 m9, .int .i64 m10, .int .i64 m11, .int .i64 m12, .int .i64 m13, .int .i64 m14, .int .i64 m15, .string m16, .string m17, .int .i64 m18, .int .i64 m19, .int .i64 m20, .int .i64 m21, .slice a22 d22 f22, .int .i64 0, .slice none 0 0, .slice none 0 0, .slice none 0 0] (0, 0) _ (heap_setRow_same _ _ #[.bool false, .int .i64 0, .int .i64 0, .int .i64 0, .int .i64 0, .int .i64 0, .int .i64 0, .int .i64 0, .int .i64 0, .int .i64 0, .int .i64 0, .int .i64 0, .string ⟨#[]⟩, .string ⟨#[]⟩, .int .i64 0, .int .i64 0, .int .i64 0, .int .i64 0, .slice none 0 0, .int .i64 0, .slice none 0 0, .slice none 0 0, .slice none 0 0] #[.bool false, .int .i64 n1, .int .i64 n2, .int .i64 n3, .int .i64 m8, .int .i64 m9, .int .i64 m10, .int .i64 m11, .int .i64 m12, .int .i64 m13, .int .i64 m14, .int .i64 m15, .string m16, .string m17, .int .i64 m18, .int .i64 m19, .int .i64 m20, .int .i64 m21, .slice a22 d22 f22, .int .i64 0, .slice none 0 0, .slice none 0 0, .slice none 0 0] _ HZr.out) Tryz.underlying81 rfl HXi.out)
  have HBf := Hd (below_setRow HBx.out (Nat.le_refl _) #[.bool false, .int .i64 n1, .int .i64 n2, .int .i64 n3, .int .i64 m8, .int .i64 m9, .int .i64 m10, .int .i64 m11, .int .i64 m12, .int .i64 m13, .int .i64 m14, .int .i64 m15, .string m16, .string m17, .int .i64 m18, .int .i64 m19, .int .i64 m20, .int .i64 m21, .slice a22 d22 f22, .int .i64 0, .slice none 0 0, .slice none 0 0, .slice none 0 0])
  have HMf : Hid (∀ w'' : World, (∀ k, w.heap.size ≤ k → k < (wx.setRow w.heap.size #[.bool false, .int .i64 n1, .int .i64 n2, .int .i64 n3, .int .i64 m8, .int .i64 m9, .int .i64 m10, .int .i64 m11, .int .i64 m12, .int .i64 m13, .int .i64 m14, .int .i64 m15, .string m16, .string m17, .int .i64 m18, .int .i64 m19, .int .i64 m20, .int .i64 m21, .slice a22 d22 f22, .int .i64 0, .slice none 0 0, .slice none 0 0, .slice none 0 0]).heap.size → w''.heap[k]? = (wx.setRow w.heap.size #[.bool false, .int .i64 n1, .int .i64 n2, .int .i64 n3, .int .i64 m8, .int .i64 m9, .int .i64 m10, .int .i64 m11, .int .i64 m12, .int .i64 m13, .int .i64 m14, .int .i64 m15, .string m16, .string m17, .int .i64 m18, .int .i64 m19, .int .i64 m20, .int .i64 m21, .slice a22 d22 f22, .int .i64 0, .slice none 0 0, .slice none 0 0, .slice none 0 0]).heap[k]?) → RecIs w'' (.agg #[.bool false, .int .i64 n1, .int .i64 n2, .int .i64 n3, .int .i64 m8, .int .i64 m9, .int .i64 m10, .int .i64 m11, .int .i64 m12, .int .i64 m13, .int .i64 m14, .int .i64 m15, .string m16, .string m17, .int .i64 m18, .int .i64 m19, .int .i64 m20, .int .i64 m21, .slice a22 d22 f22, .int .i64 0, .slice none 0 0, .slice none 0 0, .slice none 0 0]) (false, (n1, n2, n3), xi, zSnp)) := Hd (fun w'' hw'' => by
  have z6 : s2.2 = 0 := HEn.out.1
  have ei := HYI.out z6
  have ho := (HIv.out z6).1
  rw [← ei] at ho
  have hk' : ∀ (N : Nat) (T : TypeId) (k : Nat), w.heap.size < N → N ≤ k → (Ty wx k 9 ∨ Ty wx k T) → w''.heap[k]? = wx.heap[k]? := fun N T k hN h hq => (hw'' k (by omega) (by rw [(sx_setRow _ w.heap.size _).size]; rcases hq with ⟨cs, fr, q⟩ | ⟨cs, fr, q⟩ <;> exact (Array.getElem?_eq_some_iff.1 q).1)).trans ((sx_setRow _ w.heap.size _).block k (by omega))
  have h22 := (HR22.out.under HRx.out).keep (fun k => hk' _ _ k (by have := HR22b.out; have := HS1.out; omega))
  unfold rcFs rc0Fs at ho
  simp only [Bool.false_eq_true, if_false, inC, atC, cmC, oks_cons, pairC_fs, oks_app] at ho
  obtain ⟨_, _, _, _, _, ⟨_, _, _, t16, t17, _⟩, _, o22⟩ := ho
  obtain ⟨rs22, g22⟩ := OwnR.row (S := idS) h22 (fun cs x _ hq => hq)
  rw [← ei]
  exact ⟨_, rfl, rc_mk (x := (false, (n1, n2, n3), (m8, (m9, m10), (m11, m12), (m13, m14, m15, m16, m17, m18, m19, m20), m21, l22), zSnp)) (in_mk (tx_max t16) (tx_max t17) g22) (sn_zero w'')⟩)
  clear hEn
  go_wp2_with (first | (refine wpList_load_row rfl _ _ rfl (w.heap.size + 1 + 1 + 1) rfl 81 #[.bool false, .int .i64 n1, .int .i64 n2, .int .i64 n3, .int .i64 m8, .int .i64 m9, .int .i64 m10, .int .i64 m11, .int .i64 m12, .int .i64 m13, .int .i64 m14, .int .i64 m15, .string m16, .string m17, .int .i64 m18, .int .i64 m19, .int .i64 m20, .int .i64 m21, .slice a22 d22 f22, .int .i64 0, .slice none 0 0, .slice none 0 0, .slice none 0 0] (0, 0) _ HXr.out Tryz.underlying81 rfl HXi.out ?_) | (refine wpList_store_row rfl 81 _ _ rfl w.heap.size rfl #[.bool false, .int .i64 n1, .int .i64 n2, .int .i64 n3, .int .i64 m8, .int .i64 m9, .int .i64 m10, .int .i64 m11, .int .i64 m12, .int .i64 m13, .int .i64 m14, .int .i64 m15, .string m16, .string m17, .int .i64 m18, .int .i64 m19, .int .i64 m20, .int .i64 m21, .slice a22 d22 f22, .int .i64 0, .slice none 0 0, .slice none 0 0, .slice none 0 0] rfl #[.bool false, .int .i64 0, .int .i64 0, .int .i64 0, .int .i64 0, .int .i64 0, .int .i64 0, .int .i64 0, .int .i64 0, .int .i64 0, .int .i64 0, .int .i64 0, .string ⟨#[]⟩, .string ⟨#[]⟩, .int .i64 0, .int .i64 0, .int .i64 0, .int .i64 0, .slice none 0 0, .int .i64 0, .slice none 0 0, .slice none 0 0, .slice none 0 0] 81 HZr.out HXi.out rfl (by rw [← Array.all_toList]; rfl) ?_))
  have hlv := HLv.out
  exact bodyPost_ret (v := .tuple #[.agg #[.bool false, .int .i64 n1, .int .i64 n2, .int .i64 n3, .int .i64 m8, .int .i64 m9, .int .i64 m10, .int .i64 m11, .int .i64 m12, .int .i64 m13, .int .i64 m14, .int .i64 m15, .string m16, .string m17, .int .i64 m18, .int .i64 m19, .int .i64 m20, .int .i64 m21, .slice a22 d22 f22, .int .i64 0, .slice none 0 0, .slice none 0 0, .slice none 0 0], .int .i64 0]) (by simp [results, Tryz.results22, asAddr, Act.put, hlv]) rfl (by unfold GrG; rw [HE6.out]; exact ⟨_, Hd (by rw [HEr.out]), HBf.out, .inl ⟨HEr.out, HMf.out⟩⟩)
 ·have q1 : (er == 0) = false := by simpa using q
  have q2 : (er != 0) = true := by simpa using q
  have HQ := Hd q
  have HLv := Hd (run_loadVar_row (wx.setRow w.heap.size #[.bool false, .int .i64 0, .int .i64 0, .int .i64 0, .int .i64 0, .int .i64 0, .int .i64 0, .int .i64 0, .int .i64 0, .int .i64 0, .int .i64 0, .int .i64 0, .string ⟨#[]⟩, .string ⟨#[]⟩, .int .i64 0, .int .i64 0, .int .i64 0, .int .i64 0, .slice none 0 0, .int .i64 0, .slice none 0 0, .slice none 0 0, .slice none 0 0]) _ _ _ #[.bool false, .int .i64 0, .int .i64 0, .int .i64 0, .int .i64 0, .int .i64 0, .int .i64 0, .int .i64 0, .int .i64 0, .int .i64 0, .int .i64 0, .int .i64 0, .string ⟨#[]⟩, .string ⟨#[]⟩, .int .i64 0, .int .i64 0, .int .i64 0, .int .i64 0, .slice none 0 0, .int .i64 0, .slice none 0 0, .slice none 0 0, .slice none 0 0] (0, 0) _ (heap_setRow_same _ _ #[.bool false, .int .i64 0, .int .i64 0, .int .i64 0, .int .i64 0, .int .i64 0, .int .i64 0, .int .i64 0, .int .i64 0, .int .i64 0, .int .i64 0, .int .i64 0, .string ⟨#[]⟩, .string ⟨#[]⟩, .int .i64 0, .int .i64 0, .int .i64 0, .int .i64 0, .slice none 0 0, .int .i64 0, .slice none 0 0, .slice none 0 0, .slice none 0 0] #[.bool false, .int .i64 0, .int .i64 0, .int .i64 0, .int .i64 0, .int .i64 0, .int .i64 0, .int .i64 0, .int .i64 0, .int .i64 0, .int .i64 0, .int .i64 0, .string ⟨#[]⟩, .string ⟨#[]⟩, .int .i64 0, .int .i64 0, .int .i64 0, .int .i64 0, .slice none 0 0, .int .i64 0, .slice none 0 0, .slice none 0 0, .slice none 0 0] _ HZr.out) Tryz.underlying81 rfl HXi.out)
  have HBf := Hd (below_setRow HBx.out (Nat.le_refl _) #[.bool false, .int .i64 0, .int .i64 0, .int .i64 0, .int .i64 0, .int .i64 0, .int .i64 0, .int .i64 0, .int .i64 0, .int .i64 0, .int .i64 0, .int .i64 0, .string ⟨#[]⟩, .string ⟨#[]⟩, .int .i64 0, .int .i64 0, .int .i64 0, .int .i64 0, .slice none 0 0, .int .i64 0, .slice none 0 0, .slice none 0 0, .slice none 0 0])
  clear q
  go_wp2_with (refine wpList_store_row rfl 81 _ _ rfl w.heap.size rfl #[.bool false, .int .i64 0, .int .i64 0, .int .i64 0, .int .i64 0, .int .i64 0, .int .i64 0, .int .i64 0, .int .i64 0, .int .i64 0, .int .i64 0, .int .i64 0, .string ⟨#[]⟩, .string ⟨#[]⟩, .int .i64 0, .int .i64 0, .int .i64 0, .int .i64 0, .slice none 0 0, .int .i64 0, .slice none 0 0, .slice none 0 0, .slice none 0 0] rfl #[.bool false, .int .i64 0, .int .i64 0, .int .i64 0, .int .i64 0, .int .i64 0, .int .i64 0, .int .i64 0, .int .i64 0, .int .i64 0, .int .i64 0, .int .i64 0, .string ⟨#[]⟩, .string ⟨#[]⟩, .int .i64 0, .int .i64 0, .int .i64 0, .int .i64 0, .slice none 0 0, .int .i64 0, .slice none 0 0, .slice none 0 0, .slice none 0 0] 81 HZr.out HXi.out rfl (by rw [← Array.all_toList]; rfl) ?_)
  have hlv := HLv.out
  exact bodyPost_ret (v := .tuple #[.agg #[.bool false, .int .i64 0, .int .i64 0, .int .i64 0, .int .i64 0, .int .i64 0, .int .i64 0, .int .i64 0, .int .i64 0, .int .i64 0, .int .i64 0, .int .i64 0, .string ⟨#[]⟩, .string ⟨#[]⟩, .int .i64 0, .int .i64 0, .int .i64 0, .int .i64 0, .slice none 0 0, .int .i64 0, .slice none 0 0, .slice none 0 0, .slice none 0 0], .int .i64 er]) (by simp [results, Tryz.results22, asAddr, Act.put, hlv]) rfl (by unfold GrG; rw [HE6.out]; exact ⟨.agg z23, Hd (by rw [HEr.out]; rfl), HBf.out, .inr ⟨by rw [HEr.out]; exact HQ.out, rfl⟩⟩)
theorem rget_c (s : ByteArray) (w : World) (hs : s.size ≤ 1000000000) (s0 : RSt) (g0 : gNum (byt s, 0) = (1, s0)) (hq : s0.2 = 0) :
  Calls Tryz.prog 22 #[.string s] w (GrG (byt s) w) := by
 obtain ⟨x0, e0⟩ := s0
 simp only at hq
 subst hq
 obtain ⟨xn, s1, g1⟩ : ∃ b t, snC.rd (x0, 0) = (b, t) := ⟨_, _, rfl⟩
 have hE : rcRd (byt s, 0) = ((true, (0, 0, 0), zInsR, xn), s1) := by
  unfold rcRd
  rw [g0]
  simp only [g1]
  rw [if_neg (by omega), if_pos trivial]
 have HE6 := Hd hE
 have HIv := Hd (rc_inv (byt s) (byt_range s))
 rw [hE] at HIv
 have G0 := Hd g0
 have G1 := Hd g1
 obtain ⟨hb1, hb2, hb3, hb4⟩ := four_boxes w s 81 [.bool false, .int .i64 0, .int .i64 0, .int .i64 0, .int .i64 0, .int .i64 0, .int .i64 0, .int .i64 0, .int .i64 0, .int .i64 0, .int .i64 0, .int .i64 0, .string ⟨#[]⟩, .string ⟨#[]⟩, .int .i64 0, .int .i64 0, .int .i64 0, .int .i64 0, .slice none 0 0, .int .i64 0, .slice none 0 0, .slice none 0 0, .slice none 0 0]
 have HE := Hd hb1
 have HZ1 := Hd hb2
 have HB1 := Hd hb3
 have HS1 := Hd hb4
 have HE0 := Hd (HE.out.setRow [.bool false, .int .i64 0, .int .i64 0, .int .i64 0, .int .i64 0, .int .i64 0, .int .i64 0, .int .i64 0, .int .i64 0, .int .i64 0, .int .i64 0, .int .i64 0, .string ⟨#[]⟩, .string ⟨#[]⟩, .int .i64 0, .int .i64 0, .int .i64 0, .int .i64 0, .slice none 0 0, .int .i64 0, .slice none 0 0, .slice none 0 0, .slice none 0 0])
 have HXi0 : Hid ((Tryz.prog.info? 81).map (·.size) = some 23) := Hd (by kernel_rfl)
 have c0 := HE0.out.ci
 clear hb1 hb2 hb3 hb4 hE g0 g1
 go_enter Tryz.func22, Tryz.ntmps22
 go_wp2_with (refine wpList_store_row rfl 81 _ _ rfl (w.heap.size + 1 + 1 + 1) rfl #[.bool false, .int .i64 0, .int .i64 0, .int .i64 0, .int .i64 0, .int .i64 0, .int .i64 0, .int .i64 0, .int .i64 0, .int .i64 0, .int .i64 0, .int .i64 0, .string ⟨#[]⟩, .string ⟨#[]⟩, .int .i64 0, .int .i64 0, .int .i64 0, .int .i64 0, .slice none 0 0, .int .i64 0, .slice none 0 0, .slice none 0 0, .slice none 0 0] rfl #[.bool false, .int .i64 0, .int .i64 0, .int .i64 0, .int .i64 0, .int .i64 0, .int .i64 0, .int .i64 0, .int .i64 0, .int .i64 0, .int .i64 0, .int .i64 0, .string ⟨#[]⟩, .string ⟨#[]⟩, .int .i64 0, .int .i64 0, .int .i64 0, .int .i64 0, .slice none 0 0, .int .i64 0, .slice none 0 0, .slice none 0 0, .slice none 0 0] 81 HE.out.bx HXi0.out rfl (by rw [← Array.all_toList]; rfl) ?_)
 clear HE
 have HE := HE0
 clear HE0
 refine (inumE (w.heap.size + 1) s _ _ _ _ HE.out.rd hs G0.out).mono ?_
 rintro e u1 ⟨he, h1, h2⟩
 rw [he.out]
 have HJ := Hd (HE.out.call h1 h2)
 have ce := HJ.out.ce
 simp only at ce
 have cu := HJ.out.ci
 have y0 := HJ.out.bx.cell 0
 have z0 := HJ.out.bx.fz 0
 simp only [List.set_cons_zero, List.set_cons_succ, List.getElem?_cons_zero, List.getElem?_cons_succ] at y0
 obtain ⟨v1, hv⟩ : ∃ q, u1.setCell ⟨w.heap.size + 1 + 1 + 1, 0, none⟩ (.bool true) = q := ⟨_, rfl⟩
 have HK := Hd (HJ.out.set 0 (.bool true))
 simp only [List.set_cons_zero, List.set_cons_succ] at HK
 rw [hv] at HK
 clear HE HJ c0 he h1 h2
 have c0 := HK.out.ci
 have HE := HK
 clear HK
 generalize (((w.alloc (.cells [.bool false, .int .i64 0, .int .i64 0, .int .i64 0, .int .i64 0, .int .i64 0, .int .i64 0, .int .i64 0, .int .i64 0, .int .i64 0, .int .i64 0, .int .i64 0, .string ⟨#[]⟩, .string ⟨#[]⟩, .int .i64 0, .int .i64 0, .int .i64 0, .int .i64 0, .slice none 0 0, .int .i64 0, .slice none 0 0, .slice none 0 0, .slice none 0 0].toArray 81)).alloc (.cells #[.string s, .int .i64 0, .int .i64 0] 108)).alloc (.cells #[.pointer (some ⟨w.heap.size + 1, 0, none⟩)] 110)) = W1 at HE HZ1 HB1 HS1
 go_wp2_with fail
 clear hv y0 z0 ce cu
 refine (isnap (w.heap.size + 1) s (x0, 0) _ HE.out.rd hs).mono ?_
 rintro e u2 ⟨⟨⟨m23, l24⟩, l25, l26⟩, a24, d24, f24, a25, d25, f25, a26, d26, f26, he, hr24, hr25, hr26, hy, h1, h2⟩
 rw [he.out]
 rw [G1.out] at hy h1
 have HYS := Hd hy
 have HR24 := Hd hr24
 have HR25 := Hd hr25
 have HR26 := Hd hr26
 obtain ⟨q24, hq24⟩ : ∃ q, q = v1.heap.size := ⟨_, rfl⟩
 rw [← hq24] at HR24 HR25 HR26
 have HR24b : Hid (w.heap.size + 1 + 1 + 1 < q24) := Hd (by have := HE.out.sz; omega)
 clear hy hr24 hr25 hr26 hq24
 have HJ := Hd (HE.out.call h1 h2)
 have HTh := Hd (HJ.out.bx.there 19 4 (Nat.le_of_ble_eq_true rfl))
 obtain ⟨v2, hv⟩ : ∃ q, u2.setCells (w.heap.size + 1 + 1 + 1) 19 [.int .i64 m23, .slice a24 d24 f24, .slice a25 d25 f25, .slice a26 d26 f26] = q := ⟨_, rfl⟩
 have HK := Hd (HJ.out.sets 19 [.int .i64 m23, .slice a24 d24 f24, .slice a25 d25 f25, .slice a26 d26 f26])
 simp only [splice, List.set_cons_zero, List.set_cons_succ] at HK
 rw [hv] at HK
 have HV := Hd hv
 clear hv
 clear HE HJ c0 he h1 h2
 have c0 := HK.out.ci
 have HE := HK
 clear HK
 have HR24x := Hd (HR24.out.sets (b := w.heap.size + 1 + 1 + 1) (by have := HR24b.out; omega) 19 [.int .i64 m23, .slice a24 d24 f24, .slice a25 d25 f25, .slice a26 d26 f26])
 rw [HV.out] at HR24x
 clear HR24
 have HR24 := HR24x
 clear HR24x
 have HR25x := Hd (HR25.out.sets (b := w.heap.size + 1 + 1 + 1) (by have := HR24b.out; omega) 19 [.int .i64 m23, .slice a24 d24 f24, .slice a25 d25 f25, .slice a26 d26 f26])
 rw [HV.out] at HR25x
 clear HR25
 have HR25 := HR25x
 clear HR25x
 have HR26x := Hd (HR26.out.sets (b := w.heap.size + 1 + 1 + 1) (by have := HR24b.out; omega) 19 [.int .i64 m23, .slice a24 d24 f24, .slice a25 d25 f25, .slice a26 d26 f26])
 rw [HV.out] at HR26x
 clear HR26
 have HR26 := HR26x
 clear HR26x
 go_wp2_with (refine wpList_store_nm rfl 28 _ _ rfl (w.heap.size + 1 + 1 + 1) 19 #[.int .i64 m23, .slice a24 d24 f24, .slice a25 d25 f25, .slice a26 d26 f26] rfl rfl HTh.out (by kernel_rfl) (by rw [← Array.all_toList]; rfl) HV.out ?_)
 clear HV HTh
 refine (dend (w.heap.size + 1) s _ _ HE.out.rd).mono ?_
 rintro e wx ⟨he, h1⟩
 rw [he.out]
 have HXr := Hd (HE.out.bx.below h1)
 have HZr := Hd ((HZ1.out.fo HE.out.fo (by omega)).below h1)
 have hv7 := HE.out.fo.size
 have hBx : Below w.heap.size w wx := by
  have f := HE.out.fo
  have b := HB1.out
  exact ⟨h1.os.trans (f.os.trans b.os), h1.tape.trans (f.tape.trans b.tape), h1.output.trans (f.output.trans b.output), Nat.le_trans b.size (Nat.le_trans f.size h1.size), fun k hk => (h1.block k (by have := b.size; omega)).trans ((f.block k (by have := b.size; omega) (by omega)).trans (b.block k hk))⟩
 have HBx := Hd hBx
 have HRx := Hd h1
 clear he h1 hBx c0 hv7
 have HXi : Hid ((Tryz.prog.info? 81).map (·.size) = some 23) := Hd (by kernel_rfl)
 obtain ⟨er, her⟩ : ∃ er, endE s1 = er := ⟨_, rfl⟩
 have HEr := Hd her
 rw [her]
 clear her
 by_cases q : er = 0
 ·subst q
  have hEn := endE_ok HEr.out
  have HEn := Hd hEn
  have HLv := Hd (run_loadVar_row (wx.setRow w.heap.size #[.bool true, .int .i64 0, .int .i64 0, .int .i64 0, .int .i64 0, .int .i64 0, .int .i64 0, .int .i64 0, .int .i64 0, .int .i64 0, .int .i64 0, .int .i64 0, .string ⟨#[]⟩, .string ⟨#[]⟩, .int .i64 0, .int .i64 0, .int .i64 0, .int .i64 0, .slice none 0 0, .int .i64 m23, .slice a24 d24 f24, .slice a25 d25 f25, .slice a26 d26 f26]) _ _ _ #[.bool true, .int .i64 0, .int .i64 0, .int .i64 0, .int .i64 0, .int .i64 0, .int .i64 0, .int .i64 0, .int .i64 0, .int .i64 0, .int .i64 0, .int .i64 0, .string ⟨#[]⟩, .string ⟨#[]⟩, .int .i64 0, .int .i64 0, .int .i64 0, .int .i64 0, .slice none 0 0, .int .i64 m23, .slice a24 d24 f24, .slice a25 d25 f25, .slice a26 d26 f26] (0, 0) _ (heap_setRow_same _ _ #[.bool false, .int .i64 0, .int .i64 0, .int .i64 0, .int .i64 0, .int .i64 0, .int .i64 0, .int .i64 0, .int .i64 0, .int .i64 0, .int .i64 0, .int .i64 0, .string ⟨#[]⟩, .string ⟨#[]⟩, .int .i64 0, .int .i64 0, .int .i64 0, .int .i64 0, .slice none 0 0, .int .i64 0, .slice none 0 0, .slice none 0 0, .slice none 0 0] #[.bool true, .int .i64 0, .int .i64 0, .int .i64 0, .int .i64 0, .int .i64 0, .int .i64 0, .int .i64 0, .int .i64 0, .int .i64 0, .int .i64 0, .int .i64 0, .string ⟨#[]⟩, .string ⟨#[]⟩, .int .i64 0, .int .i64 0, .int .i64 0, .int .i64 0, .slice none 0 0, .int .i64 m23, .slice a24 d24 f24, .slice a25 d25 f25, .slice a26 d26 f26] _ HZr.out) Tryz.underlying81 rfl HXi.out)
  have HBf := Hd (below_setRow HBx.out (Nat.le_refl _) #[.bool true, .int .i64 0, .int .i64 0, .int .i64 0, .int .i64 0, .int .i64 0, .int .i64 0, .int .i64 0, .int .i64 0, .int .i64 0, .int .i64 0, .int .i64 0, .string ⟨#[]⟩, .string ⟨#[]⟩, .int .i64 0, .int .i64 0, .int .i64 0, .int .i64 0, .slice none 0 0, .int .i64 m23, .slice a24 d24 f24, .slice a25 d25 f25, .slice a26 d26 f26])
  have HMf : Hid (∀ w'' : World, (∀ k, w.heap.size ≤ k → k < (wx.setRow w.heap.size #[.bool true, .int .i64 0, .int .i64 0, .int .i64 0, .int .i64 0, .int .i64 0, .int .i64 0, .int .i64 0, .int .i64 0, .int .i64 0, .int .i64 0, .int .i64 0, .string ⟨#[]⟩, .string ⟨#[]⟩, .int .i64 0, .int .i64 0, .int .i64 0, .int .i64 0, .slice none 0 0, .int .i64 m23, .slice a24 d24 f24, .slice a25 d25 f25, .slice a26 d26 f26]).heap.size → w''.heap[k]? = (wx.setRow w.heap.size #[.bool true, .int .i64 0, .int .i64 0, .int .i64 0, .int .i64 0, .int .i64 0, .int .i64 0, .int .i64 0, .int .i64 0, .int .i64 0, .int .i64 0, .int .i64 0, .string ⟨#[]⟩, .string ⟨#[]⟩, .int .i64 0, .int .i64 0, .int .i64 0, .int .i64 0, .slice none 0 0, .int .i64 m23, .slice a24 d24 f24, .slice a25 d25 f25, .slice a26 d26 f26]).heap[k]?) → RecIs w'' (.agg #[.bool true, .int .i64 0, .int .i64 0, .int .i64 0, .int .i64 0, .int .i64 0, .int .i64 0, .int .i64 0, .int .i64 0, .int .i64 0, .int .i64 0, .int .i64 0, .string ⟨#[]⟩, .string ⟨#[]⟩, .int .i64 0, .int .i64 0, .int .i64 0, .int .i64 0, .slice none 0 0, .int .i64 m23, .slice a24 d24 f24, .slice a25 d25 f25, .slice a26 d26 f26]) (true, (0, 0, 0), zInsR, xn)) := Hd (fun w'' hw'' => by
  have z6 : s1.2 = 0 := HEn.out.1
  have en := HYS.out z6
  have ho := (HIv.out z6).1
  rw [← en] at ho
  have hk' : ∀ (N : Nat) (T : TypeId) (k : Nat), w.heap.size < N → N ≤ k → (Ty wx k 9 ∨ Ty wx k T) → w''.heap[k]? = wx.heap[k]? := fun N T k hN h hq => (hw'' k (by omega) (by rw [(sx_setRow _ w.heap.size _).size]; rcases hq with ⟨cs, fr, q⟩ | ⟨cs, fr, q⟩ <;> exact (Array.getElem?_eq_some_iff.1 q).1)).trans ((sx_setRow _ w.heap.size _).block k (by omega))
  have h24 := (HR24.out.under HRx.out).keep (fun k => hk' _ _ k (by have := HR24b.out; have := HS1.out; omega))
  have h25 := (HR25.out.under HRx.out).keep (fun k => hk' _ _ k (by have := HR24b.out; have := HS1.out; omega))
  have h26 := (HR26.out.under HRx.out).keep (fun k => hk' _ _ k (by have := HR24b.out; have := HS1.out; omega))
  unfold rcFs at ho
  simp only [if_true, snC, cfC, oks_cons, pairC_fs, oks_app] at ho
  obtain ⟨_, ⟨_, o24⟩, o25, o26⟩ := ho
  obtain ⟨rs24, g24⟩ := OwnR.row (S := numS) h24 (fun cs x _ hq => hq)
  obtain ⟨rs25, g25⟩ := OwnR.row (S := enS) h25 (fun cs x hx hq => en_row hq (oks_flat o25 x hx))
  obtain ⟨rs26, g26⟩ := OwnR.row (S := seS) h26 (fun cs x hx hq => se_row hq (oks_flat o26 x hx))
  rw [← en]
  exact ⟨_, rfl, rc_mk (x := (true, (0, 0, 0), zInsR, (m23, l24), l25, l26)) (inR_zero w'') (sn_mk (x := ((m23, l24), l25, l26)) g24 g25 g26)⟩)
  clear hEn
  go_wp2_with (first | (refine wpList_load_row rfl _ _ rfl (w.heap.size + 1 + 1 + 1) rfl 81 #[.bool true, .int .i64 0, .int .i64 0, .int .i64 0, .int .i64 0, .int .i64 0, .int .i64 0, .int .i64 0, .int .i64 0, .int .i64 0, .int .i64 0, .int .i64 0, .string ⟨#[]⟩, .string ⟨#[]⟩, .int .i64 0, .int .i64 0, .int .i64 0, .int .i64 0, .slice none 0 0, .int .i64 m23, .slice a24 d24 f24, .slice a25 d25 f25, .slice a26 d26 f26] (0, 0) _ HXr.out Tryz.underlying81 rfl HXi.out ?_) | (refine wpList_store_row rfl 81 _ _ rfl w.heap.size rfl #[.bool true, .int .i64 0, .int .i64 0, .int .i64 0, .int .i64 0, .int .i64 0, .int .i64 0, .int .i64 0, .int .i64 0, .int .i64 0, .int .i64 0, .int .i64 0, .string ⟨#[]⟩, .string ⟨#[]⟩, .int .i64 0, .int .i64 0, .int .i64 0, .int .i64 0, .slice none 0 0, .int .i64 m23, .slice a24 d24 f24, .slice a25 d25 f25, .slice a26 d26 f26] rfl #[.bool false, .int .i64 0, .int .i64 0, .int .i64 0, .int .i64 0, .int .i64 0, .int .i64 0, .int .i64 0, .int .i64 0, .int .i64 0, .int .i64 0, .int .i64 0, .string ⟨#[]⟩, .string ⟨#[]⟩, .int .i64 0, .int .i64 0, .int .i64 0, .int .i64 0, .slice none 0 0, .int .i64 0, .slice none 0 0, .slice none 0 0, .slice none 0 0] 81 HZr.out HXi.out rfl (by rw [← Array.all_toList]; rfl) ?_))
  have hlv := HLv.out
  exact bodyPost_ret (v := .tuple #[.agg #[.bool true, .int .i64 0, .int .i64 0, .int .i64 0, .int .i64 0, .int .i64 0, .int .i64 0, .int .i64 0, .int .i64 0, .int .i64 0, .int .i64 0, .int .i64 0, .string ⟨#[]⟩, .string ⟨#[]⟩, .int .i64 0, .int .i64 0, .int .i64 0, .int .i64 0, .slice none 0 0, .int .i64 m23, .slice a24 d24 f24, .slice a25 d25 f25, .slice a26 d26 f26], .int .i64 0]) (by simp [results, Tryz.results22, asAddr, Act.put, hlv]) rfl (by unfold GrG; rw [HE6.out]; exact ⟨_, Hd (by rw [HEr.out]), HBf.out, .inl ⟨HEr.out, HMf.out⟩⟩)
 ·have q1 : (er == 0) = false := by simpa using q
  have q2 : (er != 0) = true := by simpa using q
  have HQ := Hd q
  have HLv := Hd (run_loadVar_row (wx.setRow w.heap.size #[.bool false, .int .i64 0, .int .i64 0, .int .i64 0, .int .i64 0, .int .i64 0, .int .i64 0, .int .i64 0, .int .i64 0, .int .i64 0, .int .i64 0, .int .i64 0, .string ⟨#[]⟩, .string ⟨#[]⟩, .int .i64 0, .int .i64 0, .int .i64 0, .int .i64 0, .slice none 0 0, .int .i64 0, .slice none 0 0, .slice none 0 0, .slice none 0 0]) _ _ _ #[.bool false, .int .i64 0, .int .i64 0, .int .i64 0, .int .i64 0, .int .i64 0, .int .i64 0, .int .i64 0, .int .i64 0, .int .i64 0, .int .i64 0, .int .i64 0, .string ⟨#[]⟩, .string ⟨#[]⟩, .int .i64 0, .int .i64 0, .int .i64 0, .int .i64 0, .slice none 0 0, .int .i64 0, .slice none 0 0, .slice none 0 0, .slice none 0 0] (0, 0) _ (heap_setRow_same _ _ #[.bool false, .int .i64 0, .int .i64 0, .int .i64 0, .int .i64 0, .int .i64 0, .int .i64 0, .int .i64 0, .int .i64 0, .int .i64 0, .int .i64 0, .int .i64 0, .string ⟨#[]⟩, .string ⟨#[]⟩, .int .i64 0, .int .i64 0, .int .i64 0, .int .i64 0, .slice none 0 0, .int .i64 0, .slice none 0 0, .slice none 0 0, .slice none 0 0] #[.bool false, .int .i64 0, .int .i64 0, .int .i64 0, .int .i64 0, .int .i64 0, .int .i64 0, .int .i64 0, .int .i64 0, .int .i64 0, .int .i64 0, .int .i64 0, .string ⟨#[]⟩, .string ⟨#[]⟩, .int .i64 0, .int .i64 0, .int .i64 0, .int .i64 0, .slice none 0 0, .int .i64 0, .slice none 0 0, .slice none 0 0, .slice none 0 0] _ HZr.out) Tryz.underlying81 rfl HXi.out)
  have HBf := Hd (below_setRow HBx.out (Nat.le_refl _) #[.bool false, .int .i64 0, .int .i64 0, .int .i64 0, .int .i64 0, .int .i64 0, .int .i64 0, .int .i64 0, .int .i64 0, .int .i64 0, .int .i64 0, .int .i64 0, .string ⟨#[]⟩, .string ⟨#[]⟩, .int .i64 0, .int .i64 0, .int .i64 0, .int .i64 0, .slice none 0 0, .int .i64 0, .slice none 0 0, .slice none 0 0, .slice none 0 0])
  clear q
  go_wp2_with (refine wpList_store_row rfl 81 _ _ rfl w.heap.size rfl #[.bool false, .int .i64 0, .int .i64 0, .int .i64 0, .int .i64 0, .int .i64 0, .int .i64 0, .int .i64 0, .int .i64 0, .int .i64 0, .int .i64 0, .int .i64 0, .string ⟨#[]⟩, .string ⟨#[]⟩, .int .i64 0, .int .i64 0, .int .i64 0, .int .i64 0, .slice none 0 0, .int .i64 0, .slice none 0 0, .slice none 0 0, .slice none 0 0] rfl #[.bool false, .int .i64 0, .int .i64 0, .int .i64 0, .int .i64 0, .int .i64 0, .int .i64 0, .int .i64 0, .int .i64 0, .int .i64 0, .int .i64 0, .int .i64 0, .string ⟨#[]⟩, .string ⟨#[]⟩, .int .i64 0, .int .i64 0, .int .i64 0, .int .i64 0, .slice none 0 0, .int .i64 0, .slice none 0 0, .slice none 0 0, .slice none 0 0] 81 HZr.out HXi.out rfl (by rw [← Array.all_toList]; rfl) ?_)
  have hlv := HLv.out
  exact bodyPost_ret (v := .tuple #[.agg #[.bool false, .int .i64 0, .int .i64 0, .int .i64 0, .int .i64 0, .int .i64 0, .int .i64 0, .int .i64 0, .int .i64 0, .int .i64 0, .int .i64 0, .int .i64 0, .string ⟨#[]⟩, .string ⟨#[]⟩, .int .i64 0, .int .i64 0, .int .i64 0, .int .i64 0, .slice none 0 0, .int .i64 0, .slice none 0 0, .slice none 0 0, .slice none 0 0], .int .i64 er]) (by simp [results, Tryz.results22, asAddr, Act.put, hlv]) rfl (by unfold GrG; rw [HE6.out]; exact ⟨.agg z23, Hd (by rw [HEr.out]; rfl), HBf.out, .inr ⟨by rw [HEr.out]; exact HQ.out, rfl⟩⟩)
theorem rget_d (s : ByteArray) (w : World) (hs : s.size ≤ 1000000000) (s0 : RSt) (k0 : Int) (g0 : gNum (byt s, 0) = (k0, s0)) (hq : s0.2 = 0) (hk : 1 < k0) :
  Calls Tryz.prog 22 #[.string s] w (GrG (byt s) w) := by
 obtain ⟨x0, e0⟩ := s0
 simp only at hq
 subst hq
 have hE : rcRd (byt s, 0) = ((false, (0, 0, 0), zInsR, zSnp), (x0, 11)) := by
  unfold rcRd
  rw [g0]
  simp only
  rw [if_neg (by omega), if_neg (by omega)]
 have HE6 := Hd hE
 have G0 := Hd g0
 have d1 : decide (1 < k0) = true := decide_eq_true hk
 obtain ⟨hb1, hb2, hb3, hb4⟩ := four_boxes w s 81 [.bool false, .int .i64 0, .int .i64 0, .int .i64 0, .int .i64 0, .int .i64 0, .int .i64 0, .int .i64 0, .int .i64 0, .int .i64 0, .int .i64 0, .int .i64 0, .string ⟨#[]⟩, .string ⟨#[]⟩, .int .i64 0, .int .i64 0, .int .i64 0, .int .i64 0, .slice none 0 0, .int .i64 0, .slice none 0 0, .slice none 0 0, .slice none 0 0]
 have HE := Hd hb1
 have HZ1 := Hd hb2
 have HB1 := Hd hb3
 have HS1 := Hd hb4
 have HE0 := Hd (HE.out.setRow [.bool false, .int .i64 0, .int .i64 0, .int .i64 0, .int .i64 0, .int .i64 0, .int .i64 0, .int .i64 0, .int .i64 0, .int .i64 0, .int .i64 0, .int .i64 0, .string ⟨#[]⟩, .string ⟨#[]⟩, .int .i64 0, .int .i64 0, .int .i64 0, .int .i64 0, .slice none 0 0, .int .i64 0, .slice none 0 0, .slice none 0 0, .slice none 0 0])
 have HXi0 : Hid ((Tryz.prog.info? 81).map (·.size) = some 23) := Hd (by kernel_rfl)
 have c0 := HE0.out.ci
 clear hb1 hb2 hb3 hb4 hE g0
 go_enter Tryz.func22, Tryz.ntmps22
 go_wp2_with (refine wpList_store_row rfl 81 _ _ rfl (w.heap.size + 1 + 1 + 1) rfl #[.bool false, .int .i64 0, .int .i64 0, .int .i64 0, .int .i64 0, .int .i64 0, .int .i64 0, .int .i64 0, .int .i64 0, .int .i64 0, .int .i64 0, .int .i64 0, .string ⟨#[]⟩, .string ⟨#[]⟩, .int .i64 0, .int .i64 0, .int .i64 0, .int .i64 0, .slice none 0 0, .int .i64 0, .slice none 0 0, .slice none 0 0, .slice none 0 0] rfl #[.bool false, .int .i64 0, .int .i64 0, .int .i64 0, .int .i64 0, .int .i64 0, .int .i64 0, .int .i64 0, .int .i64 0, .int .i64 0, .int .i64 0, .int .i64 0, .string ⟨#[]⟩, .string ⟨#[]⟩, .int .i64 0, .int .i64 0, .int .i64 0, .int .i64 0, .slice none 0 0, .int .i64 0, .slice none 0 0, .slice none 0 0, .slice none 0 0] 81 HE.out.bx HXi0.out rfl (by rw [← Array.all_toList]; rfl) ?_)
 clear HE
 have HE := HE0
 clear HE0
 refine (inumE (w.heap.size + 1) s _ _ _ _ HE.out.rd hs G0.out).mono ?_
 rintro e u1 ⟨he, h1, h2⟩
 rw [he.out]
 have HJ := Hd (HE.out.call h1 h2)
 have ce := HJ.out.ce
 simp only at ce
 have HK := HJ
 clear HE HJ c0 he h1 h2
 have c0 := HK.out.ci
 have HE := HK
 clear HK
 generalize (((w.alloc (.cells [.bool false, .int .i64 0, .int .i64 0, .int .i64 0, .int .i64 0, .int .i64 0, .int .i64 0, .int .i64 0, .int .i64 0, .int .i64 0, .int .i64 0, .int .i64 0, .string ⟨#[]⟩, .string ⟨#[]⟩, .int .i64 0, .int .i64 0, .int .i64 0, .int .i64 0, .slice none 0 0, .int .i64 0, .slice none 0 0, .slice none 0 0, .slice none 0 0].toArray 81)).alloc (.cells #[.string s, .int .i64 0, .int .i64 0] 108)).alloc (.cells #[.pointer (some ⟨w.heap.size + 1, 0, none⟩)] 110)) = W1 at HE HZ1 HB1 HS1
 have HZr := Hd (HZ1.out.fo HE.out.fo (by omega))
 have hBx : Below w.heap.size w u1 := by
  have f := HE.out.fo
  have b := HB1.out
  exact ⟨f.os.trans b.os, f.tape.trans b.tape, f.output.trans b.output, Nat.le_trans b.size f.size, fun k hk => (f.block k (by have := b.size; omega) (by omega)).trans (b.block k hk)⟩
 have HBx := Hd hBx
 have HXi : Hid ((Tryz.prog.info? 81).map (·.size) = some 23) := Hd (by kernel_rfl)
 have HLv := Hd (run_loadVar_row (u1.setRow w.heap.size #[.bool false, .int .i64 0, .int .i64 0, .int .i64 0, .int .i64 0, .int .i64 0, .int .i64 0, .int .i64 0, .int .i64 0, .int .i64 0, .int .i64 0, .int .i64 0, .string ⟨#[]⟩, .string ⟨#[]⟩, .int .i64 0, .int .i64 0, .int .i64 0, .int .i64 0, .slice none 0 0, .int .i64 0, .slice none 0 0, .slice none 0 0, .slice none 0 0]) _ _ _ #[.bool false, .int .i64 0, .int .i64 0, .int .i64 0, .int .i64 0, .int .i64 0, .int .i64 0, .int .i64 0, .int .i64 0, .int .i64 0, .int .i64 0, .int .i64 0, .string ⟨#[]⟩, .string ⟨#[]⟩, .int .i64 0, .int .i64 0, .int .i64 0, .int .i64 0, .slice none 0 0, .int .i64 0, .slice none 0 0, .slice none 0 0, .slice none 0 0] (0, 0) _ (heap_setRow_same _ _ #[.bool false, .int .i64 0, .int .i64 0, .int .i64 0, .int .i64 0, .int .i64 0, .int .i64 0, .int .i64 0, .int .i64 0, .int .i64 0, .int .i64 0, .int .i64 0, .string ⟨#[]⟩, .string ⟨#[]⟩, .int .i64 0, .int .i64 0, .int .i64 0, .int .i64 0, .slice none 0 0, .int .i64 0, .slice none 0 0, .slice none 0 0, .slice none 0 0] #[.bool false, .int .i64 0, .int .i64 0, .int .i64 0, .int .i64 0, .int .i64 0, .int .i64 0, .int .i64 0, .int .i64 0, .int .i64 0, .int .i64 0, .int .i64 0, .string ⟨#[]⟩, .string ⟨#[]⟩, .int .i64 0, .int .i64 0, .int .i64 0, .int .i64 0, .slice none 0 0, .int .i64 0, .slice none 0 0, .slice none 0 0, .slice none 0 0] _ HZr.out) Tryz.underlying81 rfl HXi.out)
 have HBf := Hd (below_setRow HBx.out (Nat.le_refl _) #[.bool false, .int .i64 0, .int .i64 0, .int .i64 0, .int .i64 0, .int .i64 0, .int .i64 0, .int .i64 0, .int .i64 0, .int .i64 0, .int .i64 0, .int .i64 0, .string ⟨#[]⟩, .string ⟨#[]⟩, .int .i64 0, .int .i64 0, .int .i64 0, .int .i64 0, .slice none 0 0, .int .i64 0, .slice none 0 0, .slice none 0 0, .slice none 0 0])
 clear hBx
 go_wp2_with (refine wpList_store_row rfl 81 _ _ rfl w.heap.size rfl #[.bool false, .int .i64 0, .int .i64 0, .int .i64 0, .int .i64 0, .int .i64 0, .int .i64 0, .int .i64 0, .int .i64 0, .int .i64 0, .int .i64 0, .int .i64 0, .string ⟨#[]⟩, .string ⟨#[]⟩, .int .i64 0, .int .i64 0, .int .i64 0, .int .i64 0, .slice none 0 0, .int .i64 0, .slice none 0 0, .slice none 0 0, .slice none 0 0] rfl #[.bool false, .int .i64 0, .int .i64 0, .int .i64 0, .int .i64 0, .int .i64 0, .int .i64 0, .int .i64 0, .int .i64 0, .int .i64 0, .int .i64 0, .int .i64 0, .string ⟨#[]⟩, .string ⟨#[]⟩, .int .i64 0, .int .i64 0, .int .i64 0, .int .i64 0, .slice none 0 0, .int .i64 0, .slice none 0 0, .slice none 0 0, .slice none 0 0] 81 HZr.out HXi.out rfl (by rw [← Array.all_toList]; rfl) ?_)
 have hlv := HLv.out
 exact bodyPost_ret (v := .tuple #[.agg #[.bool false, .int .i64 0, .int .i64 0, .int .i64 0, .int .i64 0, .int .i64 0, .int .i64 0, .int .i64 0, .int .i64 0, .int .i64 0, .int .i64 0, .int .i64 0, .string ⟨#[]⟩, .string ⟨#[]⟩, .int .i64 0, .int .i64 0, .int .i64 0, .int .i64 0, .slice none 0 0, .int .i64 0, .slice none 0 0, .slice none 0 0, .slice none 0 0], .int .i64 11]) (by simp [results, Tryz.results22, asAddr, Act.put, hlv]) rfl (by unfold GrG; rw [HE6.out]; exact ⟨.agg z23, Hd (by rw [show endE (x0, (11 : Int)) = 11 from by unfold endE; rw [if_neg (by simp)]]; rfl), HBf.out, .inr ⟨by unfold endE; rw [if_neg (by simp)]; show (11 : Int) ≠ 0; decide, rfl⟩⟩)
theorem rget (s : ByteArray) (w : World) (hs : s.size ≤ 1000000000) : Calls Tryz.prog 22 #[.string s] w (GrG (byt s) w) := by
 obtain ⟨k0, s0, g0⟩ : ∃ b t, gNum (byt s, 0) = (b, t) := ⟨_, _, rfl⟩
 have hp := gNum_pos (byt s, 0)
 rw [g0] at hp
 have hp : 0 ≤ k0 := hp
 by_cases q : s0.2 = 0
 ·by_cases h0 : k0 = 0
  ·subst h0
   exact rget_a s w hs s0 g0 q
  ·by_cases h1 : k0 = 1
   ·subst h1
    exact rget_c s w hs s0 g0 q
   ·exact rget_d s w hs s0 k0 g0 q (by omega)
 ·have h0 : k0 = 0 := by
   have h := g0
   rw [gNum_ok] at h
   simp only [Prod.mk.injEq] at h
   obtain ⟨t1, t2⟩ := h
   rw [← t1]
   exact numG_err 8 0 0 (byt s) (by have := congrArg (fun p : RSt => p.2) t2; simp only at this; rw [this]; exact q)
  subst h0
  exact rget_b s w hs s0 g0 q
end Go.Proofs.YtnancdbkmompdaaGreat
