/-
  Package code: its reader.
-/
import Derived.Test.YtllcmapgigfgoaaCd1
namespace Go.Proofs.Ytllcmapgigfgoaa
open Go.RowKit
set_option linter.unusedSimpArgs false
set_option linter.unusedVariables false

/-- num.Reader at b, its bytes a row of bytes. -/
structure RdU (w : World) (b : Nat) (xs : List Int) (er : Int) : Prop where
  at' : RdAt w b xs er
  u8 : ∀ ad n cap, w.cell? ⟨b, 0, none⟩ = some (.slice (some ad) n cap) → U8 w ad.block
theorem RdU.keep {w w' : World} {b : Nat} {xs : List Int} {er : Int} (h : RdU w b xs er) (hs : w.heap.size ≤ w'.heap.size) (hb : w'.heap[b]? = w.heap[b]?) (hu : ∀ k, U8 w k → w'.heap[k]? = w.heap[k]?) : RdU w' b xs er := by
  obtain ⟨⟨c1, f0, f1, hz, ⟨a, cap, c0, hr, hf⟩, ha⟩, hu8⟩ := h
  have e0 := World.cell?_of_block (a := ⟨b, 0, none⟩) hb
  refine ⟨⟨(World.cell?_of_block (a := ⟨b, 1, none⟩) hb).trans c1, (World.frozen?_of_block (a := ⟨b, 0, none⟩) hb).trans f0, (World.frozen?_of_block (a := ⟨b, 1, none⟩) hb).trans f1, Nat.lt_of_lt_of_le hz hs, ⟨a, cap, e0.trans c0, ?_, hf⟩, ?_⟩, ?_⟩
  · obtain ⟨h1, h2⟩ := hr
    refine ⟨h1, ?_⟩
    rcases h2 with h2 | ⟨g, off, rfl, hg, hc⟩
    · exact .inl h2
    · have hk := hu g (hu8 _ _ _ c0)
      exact .inr ⟨g, off, rfl, Nat.lt_of_lt_of_le hg hs, fun i hi => (World.cell?_of_block (a := ⟨g, off + i, none⟩) hk).trans (hc i hi)⟩
  · intro ad c2 hc
    rw [e0] at hc
    exact ha ad c2 hc
  · intro ad n c2 hc
    rw [e0] at hc
    have := hu8 ad n c2 hc
    unfold U8 at this ⊢
    rwa [hu _ (hu8 ad n c2 hc)]
theorem RdU.onl {w w' : World} {b : Nat} {xs xs' : List Int} {er er' : Int} (h : RdU w b xs er) (hF : Onl b w w') (h' : RdAt w' b xs' er') : RdU w' b xs' er' := by
  refine ⟨h', fun ad n cap hc => ?_⟩
  obtain ⟨ad0, n0, cap0, h1, h2⟩ := hF.sb ad n cap hc
  have hu := h.u8 ad0 n0 cap0 h1
  rw [h2] at hu
  have hne : ad.block ≠ b := by
    intro e
    rw [e] at hu
    obtain ⟨a, c, c0, hr, hf⟩ := h.at'.left
    rw [c0] at h1
    simp only [Option.some.injEq, Value.slice.injEq] at h1
    obtain ⟨rfl, rfl, rfl⟩ := h1
    exact h.at'.apart ad0 _ c0 (h2.trans e)
  obtain ⟨cs, fr, q⟩ := hu
  exact ⟨cs, fr, (hF.ft.block _ (Array.getElem?_eq_some_iff.1 q).1 hne (fun e => by cases e)).trans q⟩
/-- Package code's reader at c, its num.Reader at b: what it has left, and what is wrong. -/
structure RO (w : World) (B b c : Nat) (s : RSt) : Prop where
  rd : ∃ er1 er2 : Int, RdU w b s.1 er1 ∧ Bk w c 135 [.pointer (some ⟨b, 0, none⟩), .int .i64 er2] ∧ (er2 = 0 → s.2 = er1) ∧ (er2 ≠ 0 → s.2 = er2)
  byts : BytL s.1
  len : s.1.length ≤ 1000000000
  ne : b ≠ c
  low : B ≤ c
  low2 : B ≤ b
theorem RO.lt {w : World} {B b c : Nat} {s : RSt} (h : RO w B b c s) : b < w.heap.size ∧ c < w.heap.size := by obtain ⟨_, _, q, k, _⟩ := h.rd; exact ⟨q.at'.size, k.lt⟩
theorem RO.keep {w w' : World} {B b c : Nat} {s : RSt} (h : RO w B b c s) (hs : w.heap.size ≤ w'.heap.size) (hb : w'.heap[b]? = w.heap[b]?) (hc : w'.heap[c]? = w.heap[c]?) (hu : ∀ k, U8 w k → w'.heap[k]? = w.heap[k]?) : RO w' B b c s := by
  obtain ⟨e1, e2, q, k, r1, r2⟩ := h.rd
  exact ⟨⟨e1, e2, q.keep hs hb hu, hc.trans k, r1, r2⟩, h.byts, h.len, h.ne, h.low, h.low2⟩
theorem RO.below {w w' : World} {B b c : Nat} {s : RSt} (h : RO w B b c s) (hb : Below w.heap.size w w') : RO w' B b c s :=
  h.keep hb.size (hb.block b h.lt.1) (hb.block c h.lt.2) (fun k ⟨cs, fr, q⟩ => hb.block k (Array.getElem?_eq_some_iff.1 q).1)
theorem RO.set {w : World} {B b c : Nat} {s : RSt} (h : RO w B b c s) {k : Nat} {T : TypeId} {cs : List Value} (hk : Bk w k T cs) (hT : T ≠ 5) (hb : k ≠ b) (hc : k ≠ c) (o : Nat) (u : Value) : RO (w.setCell ⟨k, o, none⟩ u) B b c s :=
  h.keep (by simp) (Below.heap_setCell _ _ _ _ (Ne.symm hb)) (Below.heap_setCell _ _ _ _ (Ne.symm hc)) (fun j hj => Below.heap_setCell _ _ _ _ (fun e => bk_u8 hk hT (by have e' : j = k := e; rw [← e']; exact hj)))
theorem RO.grown {w w' : World} {B b c : Nat} {s : RSt} (h : RO w B b c s) {α : Type} {K : Knd Try.prog α} {base : Nat} {v : Value} {l : List α} (ho : K.Own w base v l) (hT : K.T ≠ 5) (hb : ∀ k, v.ownBlock = some k → k ≠ b ∧ k ≠ c) (hg : w.grownBy w' v.ownBlock) : RO w' B b c s :=
  h.keep hg.size (hg.block b h.lt.1 (fun e => (hb b e.symm).1 rfl)) (hg.block c h.lt.2 (fun e => (hb c e.symm).2 rfl)) (fun k ⟨cs, fr, q⟩ => hg.block k (Array.getElem?_eq_some_iff.1 q).1 (fun e => by
    obtain ⟨h1, cs2, fr2, h2⟩ := ho.blk k e.symm
    rw [h2] at q
    simp only [Option.some.injEq, Obj.cells.injEq] at q
    exact hT q.2.1))
def RP (v : Value) (B b c : Nat) (s : RSt) (w : World) (e : Ending) (w' : World) : Prop := Hid (e = .returned v) ∧ RO w' B b c s ∧ Ft B b c w w'
theorem rop_of {B b c : Nat} {w w' : World} {s : RSt} {xs : List Int} {er1 er : Int} (h : RO w B b c s) (h0 : RdU w b s.1 er1) (hk : Bk w c 135 [.pointer (some ⟨b, 0, none⟩), .int .i64 0]) (hF : Onl b w w') (h' : RdAt w' b xs er) (hx : BytL xs) (hl : xs.length ≤ s.1.length) : RO w' B b c (xs, er) ∧ Ft B b c w w' := by
  have hc : w'.heap[c]? = w.heap[c]? := hF.ft.block c h.lt.2 (Ne.symm h.ne) (fun e => by cases e)
  exact ⟨⟨⟨er, 0, h0.onl hF h', hc.trans hk, fun _ => rfl, fun q => absurd rfl q⟩, hx, Nat.le_trans hl h.len, h.ne, h.low, h.low2⟩, Ft.of_foot hF.ft h.low2 h.lt.1 (fun k hk => by cases hk)⟩
theorem gNum_ok {xs : List Int} : gNum (xs, 0) = ((numG 8 0 0 xs).1, (xs.drop (numG 8 0 0 xs).2.1.toNat, (numG 8 0 0 xs).2.2)) := by unfold gNum; rw [if_neg (by simp)]
theorem gNum_er {xs : List Int} {er : Int} (h : er ≠ 0) : gNum (xs, er) = (0, (xs, er)) := by unfold gNum; rw [if_pos h]
theorem gTxt_ok {xs : List Int} : gTxt (xs, 0) = (txt (textN 4096 xs).1, ((textN 4096 xs).2.1, (textN 4096 xs).2.2)) := by unfold gTxt; rw [if_neg (by simp)]
theorem gTxt_er {xs : List Int} {er : Int} (h : er ≠ 0) : gTxt (xs, er) = (⟨#[]⟩, (xs, er)) := by unfold gTxt; rw [if_pos h]
theorem textN_part (most : Int) (xs : List Int) : BytL xs → BytL (textN most xs).2.1 ∧ (textN most xs).2.1.length ≤ xs.length := by
  intro hb
  unfold textN
  split
  · exact ⟨hb, Nat.le_refl _⟩
  split
  · exact ⟨hb, Nat.le_refl _⟩
  split
  · exact ⟨hb, Nat.le_refl _⟩
  exact ⟨hb.drop _, by simp⟩
theorem crnum (B b c : Nat) (n : Int) (s : RSt) (w : World) (h : RO w B b c s) :
    Calls Try.prog 114 #[.pointer (some ⟨c, 0, none⟩), .int .i64 n] w (RP (.int .i64 (gNum s).1) B b c (gNum s).2 w) := by
  obtain ⟨e1, e2, hr, hk, q1, q2⟩ := h.rd
  have HW := Lib.hid h
  have HR := Lib.hid hr
  have HK := Lib.hid hk
  have c0 := hk.cell 0
  have c1 := hk.cell 1
  simp only [List.getElem?_cons_zero, List.getElem?_cons_succ] at c0 c1
  obtain ⟨xs, er⟩ := s
  simp only at q1 q2 HR
  clear h hr hk
  by_cases z : e2 = 0
  · subst z
    obtain rfl := q1 rfl
    clear q1 q2
    by_cases z1 : er = 0
    · subst z1
      rw [gNum_ok]
      obtain ⟨N, hN⟩ : ∃ N, numG 8 0 0 xs = N := ⟨_, rfl⟩
      have HX : Hid (∀ x ∈ xs, 0 ≤ x ∧ x ≤ 255) := Lib.hid HW.out.byts
      have HN := Lib.hid hN
      rw [hN]
      clear hN
      go_enter Try.func114, Try.ntmps114
      go_wp2_with fail
      refine (rnum_any b xs _ HR.out.at' HX.out).mono ?_
      rw [HN.out]
      rintro e w1 ⟨rfl, h1, h2⟩
      have H := Lib.hid (rop_of HW.out HR.out HK.out h2 h1 (BytL.drop HX.out _) (by simp))
      clear h1 h2
      go_wp2_with fail
      go_ret
      exact ⟨rfl, H.out.1, H.out.2⟩
    · rw [gNum_er z1]
      go_enter Try.func114, Try.ntmps114
      go_wp2_with fail
      refine (rnum_wrong b xs er _ HR.out.at' z1).mono ?_
      rintro e w1 ⟨rfl, rfl⟩
      go_wp2_with fail
      go_ret
      exact ⟨rfl, HW.out, Ft.refl _ _ _ _⟩
  · obtain rfl := q2 z
    rw [gNum_er z]
    have q : (er == 0) = false := by simpa using z
    have q' : (er != 0) = true := by simpa using z
    clear q1 q2
    go_enter Try.func114, Try.ntmps114
    go_wp2_with fail
    go_ret
    exact ⟨rfl, HW.out, Ft.refl _ _ _ _⟩
theorem crtext (B b c : Nat) (t : ByteArray) (s : RSt) (w : World) (h : RO w B b c s) :
    Calls Try.prog 115 #[.pointer (some ⟨c, 0, none⟩), .string t] w (RP (.string (gTxt s).1) B b c (gTxt s).2 w) := by
  obtain ⟨e1, e2, hr, hk, q1, q2⟩ := h.rd
  have HW := Lib.hid h
  have HR := Lib.hid hr
  have HK := Lib.hid hk
  have c0 := hk.cell 0
  have c1 := hk.cell 1
  simp only [List.getElem?_cons_zero, List.getElem?_cons_succ] at c0 c1
  obtain ⟨xs, er⟩ := s
  simp only at q1 q2 HR
  clear h hr hk
  by_cases z : e2 = 0
  · subst z
    obtain rfl := q1 rfl
    clear q1 q2
    by_cases z1 : er = 0
    · subst z1
      rw [gTxt_ok]
      have HX : Hid (∀ x ∈ xs, 0 ≤ x ∧ x ≤ 255) := Lib.hid HW.out.byts
      have HP := Lib.hid (textN_part 4096 xs HX.out)
      have HL : Hid (xs.length ≤ 1000000000) := Lib.hid HW.out.len
      obtain ⟨N, hN⟩ : ∃ N, textN 4096 xs = N := ⟨_, rfl⟩
      have HN := Lib.hid hN
      rw [hN] at HP ⊢
      clear hN
      go_enter Try.func115, Try.ntmps115
      go_wp2_with fail
      refine (rtext_any b 4096 xs _ HR.out.at' HX.out HL.out).mono ?_
      rw [HN.out]
      rintro e w1 ⟨rfl, h1, h2⟩
      have H := Lib.hid (rop_of HW.out HR.out HK.out h2 h1 HP.out.1 HP.out.2)
      clear h1 h2
      go_wp2_with fail
      go_ret
      exact ⟨rfl, H.out.1, H.out.2⟩
    · rw [gTxt_er z1]
      go_enter Try.func115, Try.ntmps115
      go_wp2_with fail
      refine (rtext_wrong b 4096 xs er _ HR.out.at' z1).mono ?_
      rintro e w1 ⟨rfl, rfl⟩
      go_wp2_with fail
      go_ret
      exact ⟨rfl, HW.out, Ft.refl _ _ _ _⟩
  · obtain rfl := q2 z
    rw [gTxt_er z]
    have q : (er == 0) = false := by simpa using z
    have q' : (er != 0) = true := by simpa using z
    clear q1 q2
    go_enter Try.func115, Try.ntmps115
    go_wp2_with fail
    go_ret
    exact ⟨rfl, HW.out, Ft.refl _ _ _ _⟩
theorem gNum_pos (s : RSt) : 0 ≤ (gNum s).1 := by
  unfold gNum
  split
  · exact Int.le_refl _
  · exact numG_pos 8 0 0 s.1 (Int.le_refl _)
theorem ret_i64 {a b : Int} (h : a = b) : Ending.returned (.int .i64 a) = .returned (.int .i64 b) := by rw [h]
theorem crcount (B b c : Nat) (n : Int) (s : RSt) (w : World) (h : RO w B b c s) :
    Calls Try.prog 113 #[.pointer (some ⟨c, 0, none⟩), .int .i64 n] w (RP (.int .i64 (gCnt s).1) B b c (gCnt s).2 w) := by
  have HW := Lib.hid h
  clear h
  have hp := gNum_pos s
  obtain ⟨G, hG⟩ : ∃ G, gNum s = G := ⟨_, rfl⟩
  have HG := Lib.hid hG
  rw [hG] at hp
  obtain ⟨m, s1⟩ := G
  simp only at hp
  clear hG
  by_cases q : 1024 < m
  · have e : gCnt s = (0, (s1.1, 13)) := by unfold gCnt; rw [HG.out, if_pos q]
    rw [e]
    clear e
    go_enter Try.func113, Try.ntmps113
    go_wp2_with fail
    refine (crnum B b c 0 s _ HW.out).mono ?_
    rw [HG.out]
    rintro e w1 ⟨he, h1, h2⟩
    rw [he.out]
    clear he
    have H1 := Lib.hid h1
    have H2 := Lib.hid h2
    obtain ⟨e1, e2, hr, hk, q1, q2⟩ := h1.rd
    have HR := Lib.hid hr
    have HK := Lib.hid hk
    have c1 := hk.cell 1
    have f1 := hk.fz 1
    have hlc := hk.lt
    have HE : Hid (e2 = 0 ∨ e2 ≠ 0) := Lib.hid (by omega)
    simp only [List.getElem?_cons_zero, List.getElem?_cons_succ] at c1
    clear h1 h2 hr hk q1 q2
    go_wp2_with fail
    go_ret
    have hne := H1.out.ne
    refine ⟨rfl, ⟨⟨e1, 13, HR.out.keep (by simp) (Below.heap_setCell _ _ _ _ hne) (fun k hk => Below.heap_setCell _ _ _ _ (fun e => bk_u8 HK.out (by decide) (by have e' : k = c := e; rw [← e']; exact hk))), HK.out.set 1 _, (fun z => absurd z (by decide)), (fun _ => rfl)⟩, H1.out.byts, H1.out.len, hne, H1.out.low, H1.out.low2⟩, H2.out.setC H1.out.low 1 _⟩
  · have e : gCnt s = (m.toNat, s1) := by unfold gCnt; rw [HG.out, if_neg q]
    have hm : ((m.toNat : Nat) : Int) = m := by omega
    rw [e]
    simp only [hm]
    clear e hm
    go_enter Try.func113, Try.ntmps113
    go_wp2_with fail
    refine (crnum B b c 0 s _ HW.out).mono ?_
    rw [HG.out]
    rintro e w1 ⟨he, h1, h2⟩
    rw [he.out]
    clear he
    have H1 := Lib.hid h1
    have H2 := Lib.hid h2
    clear h1 h2
    go_wp2_with fail
    go_ret
    exact ⟨rfl, H1.out, H2.out⟩
/-- What is wrong in the end. -/
def endE (s : RSt) : Int := if s.2 = 0 ∧ 0 < s.1.length then 11 else s.2
theorem crend (B b c : Nat) (s : RSt) (w : World) (h : RO w B b c s) :
    Calls Try.prog 61 #[.pointer (some ⟨c, 0, none⟩)] w fun e w' => e = .returned (.int .i64 (endE s)) ∧ w = w' := by
  obtain ⟨e1, e2, hr, hk, q1, q2⟩ := h.rd
  have HR := Lib.hid hr
  have c0 := hk.cell 0
  have c1 := hk.cell 1
  simp only [List.getElem?_cons_zero, List.getElem?_cons_succ] at c0 c1
  obtain ⟨xs, er⟩ := s
  simp only at q1 q2 HR
  clear h hr hk
  by_cases z : e2 = 0
  · subst z
    obtain rfl := q1 rfl
    clear q1 q2
    have e : endE (xs, er) = endN xs er := rfl
    rw [e]
    go_enter Try.func61, Try.ntmps61
    go_wp2_with fail
    refine (end_any b xs er _ HR.out.at').mono ?_
    rintro e w1 ⟨rfl, rfl⟩
    go_wp2_with fail
    go_ret
    exact ⟨rfl, rfl⟩
  · obtain rfl := q2 z
    have e : endE (xs, er) = er := by unfold endE; rw [if_neg (fun q => z q.1)]
    rw [e]
    have q : (er == 0) = false := by simpa using z
    have q' : (er != 0) = true := by simpa using z
    clear q1 q2 e
    go_enter Try.func61, Try.ntmps61
    go_wp2_with fail
    go_ret
    exact ⟨rfl, rfl⟩
end Go.Proofs.Ytllcmapgigfgoaa
