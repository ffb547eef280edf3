/-
  Package code: a message read.
-/
import Derived.Test.YtllcmapgigfgoaaCdY4
import Derived.Test.YtllcmapgigfgoaaCd7
namespace Go.Proofs.Ytllcmapgigfgoaa
open Go.RowKit
set_option linter.unusedSimpArgs false
set_option linter.unusedVariables false

theorem OwnR.row {k : Nat} {K : Knd Try.prog (Cls k)} {α : Type} {R : Rz α} {S : Shp α} {w : World} {N : Nat} {a : Option Addr} {m c : Nat} {l : List α} (h : OwnR K R w N (.slice a m c) l) (hi : ∀ (cs : List Value) (x : α), x ∈ l → R.is w N cs x → S.is w cs x) : ∃ rs, RowIs K S w (.slice a m c) rs l := by
  obtain ⟨rs, h1, h2, h3⟩ := h
  exact ⟨rs, h1.rd, h2, fun j a b => hi _ _ (List.getElem_mem b) (h3 j a b)⟩
theorem oks_flat {α : Type} {A : Cod α} {l : List α} (h : Oks ((listC A).fs l)) : ∀ x ∈ l, Oks (A.fs x) := by
  rw [listC_fs, oks_cons] at h
  intro x hx f hf
  exact h.2 f (List.mem_flatMap.2 ⟨x, hx, hf⟩)
theorem tx_max {t : ByteArray} (h : Oks (txtC.fs t)) : t.size ≤ maxLen := by
  have h1 : t.size ≤ 4096 := (oks_one _).1 h
  unfold maxLen
  omega
theorem se_row {w : World} {N : Nat} {cs : List Value} {x : Ses} (h : seR.is w N cs x) (ho : Oks (seC.fs x)) : seS.is w cs x := by
  obtain ⟨v, h1, h2⟩ := h
  simp only [seC, rpC, pairC_fs, oks_app] at ho
  obtain ⟨a, c, e⟩ := h2.slice
  subst e
  obtain ⟨rs, hr⟩ := OwnR.row (S := txS) h2 (fun cs t ht hq => ⟨hq, tx_max (oks_flat ho.2.2.2.2.2 t ht)⟩)
  exact ⟨_, rs, h1, tx_max ho.2.2.2.1, hr⟩
theorem en_row {w : World} {N : Nat} {cs : List Value} {x : Ent} (h : (plainR enE).is w N cs x) (ho : Oks (enC.fs x)) : enS.is w cs x := by
  simp only [enC, pairC_fs, oks_app] at ho
  exact ⟨h, tx_max ho.1, tx_max ho.2.1⟩
theorem rowS_mk {k : Nat} {K : Knd Try.prog (Cls k)} {α : Type} {S : Shp α} {w : World} {v : Value} {rs : List (Cls k)} {l : List α} (h : RowIs K S w v rs l) : (rowS K S).is w [v] l := ⟨v, rs, rfl, h⟩
theorem pairS_mk {α β : Type} {S : Shp α} {R : Shp β} {w : World} {c1 c2 : List Value} {x : α} {y : β} (h1 : S.is w c1 x) (h2 : R.is w c2 y) : (pairS S R).is w (c1 ++ c2) (x, y) := ⟨c1, c2, rfl, h1, h2⟩
theorem num_mk (w : World) (n : Int) : numS.is w [.int .i64 n] n := rfl
theorem tx_mk (w : World) (n : ByteArray) (h : n.size ≤ maxLen) : txS.is w [.string n] n := ⟨rfl, h⟩
theorem in_mk {w : World} {x : Ins} {u : Value} {rs : List (Cls 3)} (hx : x.2.2.2.1.2.2.2.1.size ≤ maxLen) (hy : x.2.2.2.1.2.2.2.2.1.size ≤ maxLen) (h : RowIs KI idS w u rs x.2.2.2.2.2) : inS.is w (inV x u) x :=
  pairS_mk (num_mk w _) (pairS_mk (pairS_mk (num_mk w _) (num_mk w _)) (pairS_mk (pairS_mk (num_mk w _) (num_mk w _)) (pairS_mk
    (pairS_mk (num_mk w _) (pairS_mk (num_mk w _) (pairS_mk (num_mk w _) (pairS_mk (tx_mk w _ hx) (pairS_mk (tx_mk w _ hy) (pairS_mk (num_mk w _) (pairS_mk (num_mk w _) (num_mk w _))))))))
    (pairS_mk (num_mk w _) (rowS_mk h)))))
theorem sn_mk {w : World} {x : Snp} {u1 u2 u3 : Value} {rs1 : List (Cls 1)} {rs2 : List (Cls 3)} {rs3 : List (Cls 6)} (h1 : RowIs KN numS w u1 rs1 x.1.2) (h2 : RowIs KE enS w u2 rs2 x.2.1) (h3 : RowIs KZ seS w u3 rs3 x.2.2) : snS.is w (snV x u1 u2 u3) x :=
  pairS_mk (pairS_mk (num_mk w _) (rowS_mk h1)) (pairS_mk (rowS_mk h2) (rowS_mk h3))
theorem ms_mk {w : World} {x : Msg7} {u0 u1 u2 u3 : Value} {rs0 : List (Cls 3)} {rs1 : List (Cls 1)} {rs2 : List (Cls 3)} {rs3 : List (Cls 6)} (hx : x.2.2.2.2.2.1.2.2.2.1.2.2.2.1.size ≤ maxLen) (hy : x.2.2.2.2.2.1.2.2.2.1.2.2.2.2.1.size ≤ maxLen) (h0 : RowIs KI idS w u0 rs0 x.2.2.2.2.2.1.2.2.2.2.2)
    (h1 : RowIs KN numS w u1 rs1 x.2.2.2.2.2.2.1.2) (h2 : RowIs KE enS w u2 rs2 x.2.2.2.2.2.2.2.1) (h3 : RowIs KZ seS w u3 rs3 x.2.2.2.2.2.2.2.2) : msS.is w (msV x u0 u1 u2 u3) x := by
  have hid : idS.is w (idE x.2.2.2.1) x.2.2.2.1 := rfl
  have h := pairS_mk (num_mk w x.1) (pairS_mk (num_mk w x.2.1) (pairS_mk (num_mk w x.2.2.1) (pairS_mk hid (pairS_mk (pairS_mk (num_mk w x.2.2.2.2.1.1) (num_mk w x.2.2.2.2.1.2)) (pairS_mk (in_mk hx hy h0) (sn_mk h1 h2 h3))))))
  exact h
/-- The message that a reader has read, if all of it may be. -/
def RmP (x : Msg7) (B b c : Nat) (s : RSt) (w : World) (e : Ending) (w' : World) : Prop := ∃ cs : Array Value, Hid (e = .returned (.agg cs)) ∧ cs.size = 27 ∧ cs.all (·.oneCell') = true ∧ (∀ w'' : World, (∀ k, w.heap.size ≤ k → k < w'.heap.size → w''.heap[k]? = w'.heap[k]?) → Oks (msC.fs x) → msS.is w'' cs.toList x) ∧ RO w' B b c s ∧ Ft B b c w w'
def z27 : Array Value := #[.int .i64 0, .int .i64 0, .int .i64 0, .int .i64 0, .int .i64 0, .int .i64 0, .int .i64 0, .int .i64 0, .int .i64 0, .int .i64 0, .int .i64 0, .int .i64 0, .int .i64 0, .int .i64 0, .int .i64 0, .int .i64 0, .string ⟨#[]⟩, .string ⟨#[]⟩, .int .i64 0, .int .i64 0, .int .i64 0, .int .i64 0, .slice none 0 0, .int .i64 0, .slice none 0 0, .slice none 0 0, .slice none 0 0]
theorem r_msgI (B b c : Nat) (x : Msg7) (s s' : RSt) (w : World) (h : RO w B b c s) (hE : msC.rd s = (x, s')) : Calls Try.prog 27 #[fR c, .agg z27] w (RmP x B b c s' w) := by
  obtain ⟨n0, n1, n2, ⟨n3, n4, n5⟩, ⟨n6, n7⟩, ⟨n8, ⟨n9, n10⟩, ⟨n11, n12⟩, ⟨n13, n14, n15, n16, n17, n18, n19, n20⟩, n21, l22⟩, ⟨n23, l24⟩, l25, l26⟩ := x
  refine (r_msg B b c 0 0 0 0 0 0 0 0 0 0 0 0 0 0 0 0 ⟨#[]⟩ ⟨#[]⟩ 0 0 0 0 none 0 0 0 none 0 0 none 0 0 none 0 0 n0 n1 n2 n3 n4 n5 n6 n7 n8 n9 n10 n11 n12 n13 n14 n15 n16 n17 n18 n19 n20 n21 l22 n23 l24 l25 l26 s s' w h hE).mono ?_
  rintro e w2 ⟨b22, d22, f22, b24, d24, f24, b25, d25, f25, b26, d26, f26, he, h22, h24, h25, h26, h1, h2⟩
  refine ⟨#[.int .i64 n0, .int .i64 n1, .int .i64 n2, .int .i64 n3, .int .i64 n4, .int .i64 n5, .int .i64 n6, .int .i64 n7, .int .i64 n8, .int .i64 n9, .int .i64 n10, .int .i64 n11, .int .i64 n12, .int .i64 n13, .int .i64 n14, .int .i64 n15, .string n16, .string n17, .int .i64 n18, .int .i64 n19, .int .i64 n20, .int .i64 n21, .slice b22 d22 f22, .int .i64 n23, .slice b24 d24 f24, .slice b25 d25 f25, .slice b26 d26 f26], he, rfl, (by rw [← Array.all_toList]; rfl), fun w'' hk ho => ?_, h1, h2⟩
  have hk' : ∀ (T : TypeId) (k : Nat), w.heap.size ≤ k → (Ty w2 k 9 ∨ Ty w2 k T) → w''.heap[k]? = w2.heap[k]? := fun T k h hq => hk k h (by rcases hq with ⟨cs, fr, q⟩ | ⟨cs, fr, q⟩ <;> exact (Array.getElem?_eq_some_iff.1 q).1)
  replace h22 := h22.keep (hk' _)
  replace h24 := h24.keep (hk' _)
  replace h25 := h25.keep (hk' _)
  replace h26 := h26.keep (hk' _)
  simp only [msC, inC, atC, cmC, snC, cfC, pairC_fs, oks_app] at ho
  obtain ⟨_, _, _, _, _, ⟨_, _, _, ⟨_, _, _, t16, t17, _, _, _⟩, _, o22⟩, ⟨_, o24⟩, o25, o26⟩ := ho
  obtain ⟨rs22, g22⟩ := OwnR.row (S := idS) h22 (fun cs x _ hq => hq)
  obtain ⟨rs24, g24⟩ := OwnR.row (S := numS) h24 (fun cs x _ hq => hq)
  obtain ⟨rs25, g25⟩ := OwnR.row (S := enS) h25 (fun cs x hx hq => en_row hq (oks_flat o25 x hx))
  obtain ⟨rs26, g26⟩ := OwnR.row (S := seS) h26 (fun cs x hx hq => se_row hq (oks_flat o26 x hx))
  exact ms_mk (x := (n0, n1, n2, (n3, n4, n5), (n6, n7), (n8, (n9, n10), (n11, n12), (n13, n14, n15, n16, n17, n18, n19, n20), n21, l22), (n23, l24), l25, l26)) (tx_max t16) (tx_max t17) g22 g24 g25 g26
def OfU (xs : List Int) (w : World) (e : Ending) (w' : World) : Prop := ∃ b : Nat, Hid (e = .returned (.pointer (some ⟨b, 0, none⟩))) ∧ w.heap.size ≤ b ∧ RdU w' b xs 0 ∧ Below w.heap.size w w'
theorem rdu_box {w : World} {base : Nat} {a : Option Addr} {m c : Nat} {xs : List Int} {t : TypeId} (h : Own8 w base (.slice a m c) xs) (hm : xs.length = m) (hl : xs.length ≤ 1000000000) : RdU (w.alloc (.cells #[.slice a m c, .int .i64 0] t)) w.heap.size xs 0 := by
  subst hm
  obtain ⟨ad, cap, e, h1, h2⟩ := (h.bt (by omega)).row
  simp only [Value.slice.injEq] at e
  obtain ⟨rfl, _, rfl⟩ := e
  have hlt : ∀ ad, a = some ad → ad.block < w.heap.size := fun ad hq => h.lt ad.block (by subst hq; rfl)
  refine ⟨rdat_box h1 h2 hlt, fun ad n cap2 hc => ?_⟩
  have e : (w.alloc (.cells #[.slice a xs.length c, .int .i64 0] t)).cell? ⟨w.heap.size, 0, none⟩ = some (.slice a xs.length c) := by simp [go_sem]
  rw [e] at hc
  simp only [Option.some.injEq, Value.slice.injEq] at hc
  obtain ⟨cs, fr, q⟩ := h.blk ad.block (by rw [hc.1]; rfl)
  exact ⟨cs, fr, (Below.heap_alloc _ _ _ (hlt ad hc.1)).trans q⟩
set_option maxHeartbeats 1600000 in
theorem of_u (v : Value) (xs : List Int) (w : World) (h : Bt w v xs) (hl : xs.length ≤ 1000000000) : Calls Try.prog 60 #[v] w (OfU xs w) := by
  have HY := Lib.hid h
  have hl2 : ([] : List Int).length + xs.length ≤ 100000000000 := by simp; omega
  clear h
  go_enter Try.func60, Try.ntmps60
  go_wp2_with (refine wpList_app8N rfl _ _ rfl w.heap.size (.slice none 0 0) [] rfl (Own8.nil _ _) v xs rfl HY.out hl2 (Nat.le_refl _) ?_)
  intro v2 w2 ho hg hn
  obtain ⟨a2, c2, rfl⟩ := ho.slice
  have HO := Lib.hid ho
  have HB := Lib.hid ((Below.refl w.heap.size w).grown hg (Nat.le_refl _) (fun k h => by cases h))
  clear ho hg hn
  go_wp2_with fail
  go_ret
  exact ⟨_, rfl, HB.out.size, rdu_box HO.out (by simp) (by simpa using hl), HB.out.alloc HB.out.size _⟩
/-- What a message is read as. -/
def GmP (xs : List Int) (w : World) (e : Ending) (w' : World) : Prop := ∃ u : Value, Hid (e = .returned (.tuple #[u, .int .i64 (endE (msC.rd (xs, 0)).2)])) ∧ Below w.heap.size w w' ∧ ((endE (msC.rd (xs, 0)).2 = 0 ∧ ∀ w'' : World, (∀ k, w.heap.size ≤ k → k < w'.heap.size → w''.heap[k]? = w'.heap[k]?) → MsgIs w'' u (msC.rd (xs, 0)).1) ∨ (endE (msC.rd (xs, 0)).2 ≠ 0 ∧ u = .agg z27))
theorem endE_ok {s : RSt} (h : endE s = 0) : s.2 = 0 ∧ s.1 = [] := by
  unfold endE at h
  by_cases q : s.2 = 0 ∧ 0 < s.1.length
  · rw [if_pos q] at h; cases h
  · rw [if_neg q] at h
    exact ⟨h, List.eq_nil_of_length_eq_zero (by have := fun z => q ⟨h, z⟩; omega)⟩
set_option maxRecDepth 100000 in
set_option maxHeartbeats 4000000 in
theorem read_msg (v : Value) (xs : List Int) (w : World) (h : Bt w v xs) (hx : BytL xs) (hl : xs.length ≤ 1000000000) :
    Calls Try.prog 38 #[v, .func (.func 27) #[] #[]] w (GmP xs w) := by
  have HY := Lib.hid (h.below (((Below.refl _ _).alloc (Nat.le_refl _) (.cells z27 44)).alloc (by simp) (.cells z27 44)))
  have HX := Lib.hid hx
  have HA : Hid (((w.alloc (.cells z27 44)).alloc (.cells z27 44)).heap[w.heap.size]? = some (.cells z27 44 (0, 0))) := Lib.hid ((Below.heap_alloc _ _ _ (by simp)).trans (bka_new w _ _))
  have HB : Hid (((w.alloc (.cells z27 44)).alloc (.cells z27 44)).heap[w.heap.size + 1]? = some (.cells z27 44 (0, 0))) := Lib.hid (by have := bka_new (w.alloc (.cells z27 44)) 44 z27; rwa [World.size_alloc] at this)
  have HW : Hid (Below w.heap.size w ((w.alloc (.cells z27 44)).alloc (.cells z27 44))) := Lib.hid (((Below.refl _ _).alloc (Nat.le_refl _) _).alloc (by simp) _)
  clear h hx
  go_enter Try.func38, Try.ntmps38
  go_wp2_with fail
  refine (of_u v xs _ HY.out hl).mono ?_
  rintro e w1 ⟨b, he, h1, h2, h3⟩
  rw [he.out]
  clear he
  have hz : ((w.alloc (.cells z27 44)).alloc (.cells z27 44)).heap.size = w.heap.size + 2 := by simp
  have h1 : w.heap.size + 2 ≤ b := by rw [← hz]; exact h1
  have h3 : Below (w.heap.size + 2) ((w.alloc (.cells z27 44)).alloc (.cells z27 44)) w1 := by rw [← hz]; exact h3
  clear hz
  have hlt := h2.at'.size
  have HC := Lib.hid (Bk.new w1 135 [.pointer (some ⟨b, 0, none⟩), .int .i64 0])
  have hu8 : ∀ k, U8 w1 k → (w1.alloc (.cells #[.pointer (some ⟨b, 0, none⟩), .int .i64 0] 135)).heap[k]? = w1.heap[k]? := fun k ⟨cs, fr, q⟩ => Below.heap_alloc _ _ _ (Array.getElem?_eq_some_iff.1 q).1
  have HO : Hid (RO (w1.alloc (.cells #[.pointer (some ⟨b, 0, none⟩), .int .i64 0] 135)) (w.heap.size + 2) b w1.heap.size (xs, 0)) := Lib.hid ⟨⟨0, 0, h2.keep (by simp) (Below.heap_alloc _ _ _ hlt) hu8, HC.out, fun _ => rfl, fun q => absurd rfl q⟩, HX.out, hl, by omega, by omega, h1⟩
  have HA1 : Hid ((w1.alloc (.cells #[.pointer (some ⟨b, 0, none⟩), .int .i64 0] 135)).heap[w.heap.size]? = some (.cells z27 44 (0, 0))) := Lib.hid ((Below.heap_alloc _ _ _ (by omega)).trans ((h3.block _ (by omega)).trans HA.out))
  have HB1 : Hid ((w1.alloc (.cells #[.pointer (some ⟨b, 0, none⟩), .int .i64 0] 135)).heap[w.heap.size + 1]? = some (.cells z27 44 (0, 0))) := Lib.hid ((Below.heap_alloc _ _ _ (by omega)).trans ((h3.block _ (by omega)).trans HB.out))
  have HW1 : Hid (Below w.heap.size w (w1.alloc (.cells #[.pointer (some ⟨b, 0, none⟩), .int .i64 0] 135))) := Lib.hid ((HW.out.trans (h3.mono (by omega))).alloc (by omega) _)
  have HZ := Lib.hid (show w.heap.size + 2 ≤ b ∧ b < w1.heap.size from ⟨h1, hlt⟩)
  obtain ⟨x, s', hE⟩ : ∃ x y, msC.rd (xs, 0) = (x, y) := ⟨_, _, rfl⟩
  have HE := Lib.hid hE
  have HIn := Lib.hid (msC.inv xs HX.out)
  unfold GmP
  rw [hE] at HIn ⊢
  clear hE h1 h2 h3 hu8 HA HB HW hlt
  go_wp2_with (refine wpList_load_row rfl _ _ rfl (w.heap.size + 1) rfl 44 z27 (0, 0) _ HB1.out Try.underlying44 rfl (by kernel_rfl) ?_)
  refine (r_msgI (w.heap.size + 2) b w1.heap.size x _ s' _ HO.out HE.out).mono ?_
  rintro e w2 ⟨cs, he, hsz, hone, hok, h1, h2⟩
  rw [he.out]
  clear he
  have hbc : b < w2.heap.size ∧ w1.heap.size < w2.heap.size := ⟨h1.lt.1, h1.lt.2⟩
  have HI : Hid ((Try.prog.info? 44).map (·.size) = some cs.size) := Lib.hid (by rw [hsz]; kernel_rfl)
  have HI2 : Hid (z27.size = cs.size) := Lib.hid (by rw [hsz]; rfl)
  have HOne := Lib.hid hone
  have HNew := Lib.hid (bka_new w2 44 z27)
  have hsx := sx_setRow (w2.alloc (.cells z27 44)) w2.heap.size cs
  have HRow : Hid (((w2.alloc (.cells z27 44)).setRow w2.heap.size cs).heap[w2.heap.size]? = some (.cells cs 44 (0, 0))) := Lib.hid (heap_setRow_same _ _ z27 cs _ (bka_new _ _ _))
  have hB3 : Below w2.heap.size w2 ((w2.alloc (.cells z27 44)).setRow w2.heap.size cs) := below_setRow ((Below.refl _ _).alloc (Nat.le_refl _) _) (Nat.le_refl _) cs
  have HO3 : Hid (RO ((w2.alloc (.cells z27 44)).setRow w2.heap.size cs) (w.heap.size + 2) b w1.heap.size s') := Lib.hid (h1.below hB3)
  have hlow := h2.low
  have HA3 : Hid (((w2.alloc (.cells z27 44)).setRow w2.heap.size cs).heap[w.heap.size]? = some (.cells z27 44 (0, 0))) := Lib.hid ((hB3.block _ (by have := HZ.out; omega)).trans ((hlow.block _ (by omega)).trans HA1.out))
  have HB3 : Hid (((w2.alloc (.cells z27 44)).setRow w2.heap.size cs).heap[w.heap.size + 1]? = some (.cells z27 44 (0, 0))) := Lib.hid ((hB3.block _ (by have := HZ.out; omega)).trans ((hlow.block _ (by omega)).trans HB1.out))
  have HW3 : Hid (Below w.heap.size w ((w2.alloc (.cells z27 44)).setRow w2.heap.size cs)) := Lib.hid ((HW1.out.trans (hlow.mono (by omega))).trans (hB3.mono (by have := HZ.out; omega)))
  have hst : w.heap.size + 1 < (w1.alloc (.cells #[.pointer (some ⟨b, 0, none⟩), .int .i64 0] 135)).heap.size := by have := HZ.out; simp; omega
  have HOk : Hid (∀ w'' : World, (∀ k, w.heap.size ≤ k → k < (((w2.alloc (.cells z27 44)).setRow w2.heap.size cs).setRow w.heap.size cs).heap.size → w''.heap[k]? = (((w2.alloc (.cells z27 44)).setRow w2.heap.size cs).setRow w.heap.size cs).heap[k]?) → Oks (msC.fs x) → msS.is w'' cs.toList x) := Lib.hid (fun w'' hw'' => hok w'' (fun k hk1 hk2 => (hw'' k (by omega) (by have := hB3.size; rw [(sx_setRow _ w.heap.size cs).size]; omega)).trans (((sx_setRow _ w.heap.size cs).block k (by omega)).trans (hB3.block k hk2))))
  have HZ3 := Lib.hid (show w.heap.size < w2.heap.size ∧ w.heap.size + 1 < w2.heap.size by have := HZ.out; omega)
  clear hsz hone hok h1 h2 hsx hB3 hlow hbc hst HO HA1 HB1 HW1
  go_wp2_with (refine wpList_store_row rfl 44 _ _ rfl w2.heap.size rfl cs rfl z27 44 HNew.out HI.out HI2.out HOne.out ?_)
  refine (crend _ _ _ s' ((w2.alloc (.cells z27 44)).setRow w2.heap.size cs) HO3.out).mono ?_
  rintro e w4 ⟨rfl, rfl⟩
  generalize hw3 : (w2.alloc (.cells z27 44)).setRow w2.heap.size cs = w3 at *
  clear hw3
  obtain ⟨er, her⟩ : ∃ er, endE s' = er := ⟨_, rfl⟩
  have HEr := Lib.hid her
  rw [her]
  clear her
  by_cases q : er = 0
  · subst q
    have HS0 := Lib.hid (endE_ok HEr.out)
    have hlt0 : w.heap.size < w3.heap.size := (Array.getElem?_eq_some_iff.1 HA3.out).1
    have hBf : Below w.heap.size w3 (w3.setRow w.heap.size cs) := below_setRow (Below.refl _ _) (Nat.le_refl _) cs
    have HLv : Hid ((loadVar 44 ⟨w.heap.size, 0, none⟩).run Try.prog (w3.setRow w.heap.size cs) = .ok (.agg cs) (w3.setRow w.heap.size cs)) := Lib.hid (run_loadVar_row _ _ _ _ cs (0, 0) _ (heap_setRow_same _ _ z27 cs _ HA3.out) Try.underlying44 rfl HI.out)
    have HBf := Lib.hid (HW3.out.trans hBf)
    have HMf : Hid (∀ w'' : World, (∀ k, w.heap.size ≤ k → k < (w3.setRow w.heap.size cs).heap.size → w''.heap[k]? = (w3.setRow w.heap.size cs).heap[k]?) → MsgIs w'' (.agg cs) x) := Lib.hid (fun w'' hw'' => ⟨cs, rfl, HOk.out w'' hw'' (HIn.out HS0.out.1).1⟩)
    clear hBf
    go_wp2_with (first | (refine wpList_load_row rfl _ _ rfl w2.heap.size rfl 44 cs (0, 0) _ HRow.out Try.underlying44 rfl HI.out ?_) | (refine wpList_store_row rfl 44 _ _ rfl w.heap.size rfl cs rfl z27 44 HA3.out HI.out HI2.out HOne.out ?_))
    have hlv := HLv.out
    exact bodyPost_ret (v := .tuple #[.agg cs, .int .i64 0]) (by simp [results, Try.results38, asAddr, hlv]) rfl (by unfold GmP; rw [HE.out]; exact ⟨.agg cs, Lib.hid (by rw [HEr.out]), HBf.out, .inl ⟨HEr.out, HMf.out⟩⟩)
  · have q1 : (er == 0) = false := by simpa using q
    have q2 : (er != 0) = true := by simpa using q
    have hBf : Below w.heap.size w3 (w3.setRow w.heap.size z27) := below_setRow (Below.refl _ _) (Nat.le_refl _) z27
    have HLv : Hid ((loadVar 44 ⟨w.heap.size, 0, none⟩).run Try.prog (w3.setRow w.heap.size z27) = .ok (.agg z27) (w3.setRow w.heap.size z27)) := Lib.hid (run_loadVar_row _ _ _ _ z27 (0, 0) _ (heap_setRow_same _ _ z27 z27 _ HA3.out) Try.underlying44 rfl (by kernel_rfl))
    have HBf := Lib.hid (HW3.out.trans hBf)
    have HQ := Lib.hid q
    clear hBf q
    go_wp2_with (first | (refine wpList_load_row rfl _ _ rfl (w.heap.size + 1) rfl 44 z27 (0, 0) _ HB3.out Try.underlying44 rfl (by kernel_rfl) ?_) | (refine wpList_store_row rfl 44 _ _ rfl w.heap.size rfl z27 rfl z27 44 HA3.out (by kernel_rfl) rfl (by rw [← Array.all_toList]; rfl) ?_))
    have hlv := HLv.out
    exact bodyPost_ret (v := .tuple #[.agg z27, .int .i64 er]) (by simp [results, Try.results38, asAddr, hlv]) rfl (by unfold GmP; rw [HE.out]; exact ⟨.agg z27, Lib.hid (by rw [HEr.out]), HBf.out, .inr ⟨by rw [HEr.out]; exact HQ.out, rfl⟩⟩)
set_option maxRecDepth 100000 in
set_option maxHeartbeats 4000000 in
theorem ofmsg_any (v : Value) (xs : List Int) (w : World) (h : Bt w v xs) (hx : BytL xs) (hl : xs.length ≤ 1000000000) :
    Calls Try.prog 17 #[v] w (GmP xs w) := by
  have HY := Lib.hid (h.below ((Below.refl _ _).alloc (Nat.le_refl _) (.cells z27 44)))
  have HX := Lib.hid hx
  have HA := Lib.hid (bka_new w 44 z27)
  clear h hx
  go_enter Try.func17, Try.ntmps17
  go_wp2_with fail
  refine (read_msg v xs _ HY.out HX.out hl).mono ?_
  rintro e w1 ⟨u, he, h1, h2⟩
  rw [he.out]
  clear he
  have h1 : Below (w.heap.size + 1) (w.alloc (.cells z27 44)) w1 := by have := h1; simpa using this
  have hA1 : w1.heap[w.heap.size]? = some (.cells z27 44 (0, 0)) := (h1.block _ (by omega)).trans HA.out
  have HA1 := Lib.hid hA1
  obtain ⟨cs, hu, hsz, hone, hM⟩ : ∃ cs : Array Value, u = .agg cs ∧ cs.size = 27 ∧ cs.all (·.oneCell') = true ∧ ((endE (msC.rd (xs, 0)).2 = 0 ∧ ∀ w'' : World, (∀ k, w.heap.size + 1 ≤ k → k < w1.heap.size → w''.heap[k]? = w1.heap[k]?) → msS.is w'' cs.toList (msC.rd (xs, 0)).1) ∨ (endE (msC.rd (xs, 0)).2 ≠ 0 ∧ cs = z27)) := by
    rcases h2 with ⟨q, hm0⟩ | ⟨q, rfl⟩
    · obtain ⟨cs, rfl, hm⟩ := hm0 w1 (fun _ _ _ => rfl)
      exact ⟨cs, rfl, ms_size hm, by rw [← Array.all_toList]; exact List.all_eq_true.2 (fun v hv => msS.one hm v hv), .inl ⟨q, fun w'' hw'' => by
        obtain ⟨cs', e, hm'⟩ := hm0 w'' (fun k hk1 hk2 => hw'' k (by simpa using hk1) hk2)
        simp only [Value.agg.injEq] at e
        subst e
        exact hm'⟩⟩
    · exact ⟨z27, rfl, rfl, by rw [← Array.all_toList]; rfl, .inr ⟨q, rfl⟩⟩
  subst hu
  have HI : Hid ((Try.prog.info? 44).map (·.size) = some cs.size) := Lib.hid (by rw [hsz]; kernel_rfl)
  have HI2 : Hid (z27.size = cs.size) := Lib.hid (by rw [hsz]; rfl)
  have HOne := Lib.hid hone
  have hBf : Below w.heap.size w (w1.setRow w.heap.size cs) := below_setRow (((Below.refl _ _).alloc (Nat.le_refl _) _).trans (h1.mono (by omega))) (Nat.le_refl _) cs
  have HBf := Lib.hid hBf
  have HLv : Hid ((loadVar 44 ⟨w.heap.size, 0, none⟩).run Try.prog (w1.setRow w.heap.size cs) = .ok (.agg cs) (w1.setRow w.heap.size cs)) := Lib.hid (run_loadVar_row _ _ _ _ cs (0, 0) _ (heap_setRow_same _ _ z27 cs _ hA1) Try.underlying44 rfl HI.out)
  have HMf : Hid ((endE (msC.rd (xs, 0)).2 = 0 ∧ ∀ w'' : World, (∀ k, w.heap.size ≤ k → k < (w1.setRow w.heap.size cs).heap.size → w''.heap[k]? = (w1.setRow w.heap.size cs).heap[k]?) → MsgIs w'' (.agg cs) (msC.rd (xs, 0)).1) ∨ (endE (msC.rd (xs, 0)).2 ≠ 0 ∧ cs = z27)) := Lib.hid (by
    rcases hM with ⟨q, hm⟩ | ⟨q, hm⟩
    · exact .inl ⟨q, fun w'' hw'' => ⟨cs, rfl, hm w'' (fun k hk1 hk2 => (hw'' k (by omega) (by rw [(sx_setRow _ w.heap.size cs).size]; exact hk2)).trans ((sx_setRow _ w.heap.size cs).block k (by omega)))⟩⟩
    · exact .inr ⟨q, hm⟩)
  obtain ⟨er, her⟩ : ∃ er, endE (msC.rd (xs, 0)).2 = er := ⟨_, rfl⟩
  have HEr := Lib.hid her
  rw [her]
  clear h1 h2 hA1 hsz hone hBf hM her
  go_wp2_with (refine wpList_store_row rfl 44 _ _ rfl w.heap.size rfl cs rfl z27 44 HA1.out HI.out HI2.out HOne.out ?_)
  have hlv := HLv.out
  exact bodyPost_ret (v := .tuple #[.agg cs, .int .i64 er]) (by simp [results, Try.results17, asAddr, hlv]) rfl ⟨.agg cs, Lib.hid (by rw [HEr.out]), HBf.out, by
    rcases HMf.out with ⟨q, hm⟩ | ⟨q, hm⟩
    · exact .inl ⟨q, hm⟩
    · exact .inr ⟨q, by rw [hm]⟩⟩
end Go.Proofs.Ytllcmapgigfgoaa
