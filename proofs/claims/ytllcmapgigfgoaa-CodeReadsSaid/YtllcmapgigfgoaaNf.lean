/-
  The walks of package num's writer, told with what they may write: the writer, and the row that it owns.
-/
import Derived.Test.YtllcmapgigfgoaaNum3
import Derived.Test.YtllcmapgigfgoaaFt
namespace Go.Proofs.Ytllcmapgigfgoaa
open Go.RowKit
set_option linter.unusedSimpArgs false
set_option linter.unusedVariables false

/-- A writer at block b: what it has written, and whether it is spoilt; its row is v. -/
structure WrV (w : World) (B b : Nat) (v : Value) (xs : List Int) (sp : Bool) : Prop where
  lt : b < w.heap.size
  low : B ≤ b
  c0 : w.cell? ⟨b, 0, none⟩ = some v
  c1 : w.cell? ⟨b, 1, none⟩ = some (.bool sp)
  f0 : w.frozen? ⟨b, 0, none⟩ = false
  f1 : w.frozen? ⟨b, 1, none⟩ = false
  own : Own8 w B v xs
  far : ∀ k, v.ownBlock = some k → k ≠ b
  blk : ∃ cs fr, w.heap[b]? = some (.cells cs 144 fr)
theorem WrV.keep {w w' : World} {B b : Nat} {v : Value} {xs : List Int} {sp : Bool} (h : WrV w B b v xs sp) (hs : w.heap.size ≤ w'.heap.size) (hp : w'.heap[b]? = w.heap[b]?) (hk : ∀ k, v.ownBlock = some k → w'.heap[k]? = w.heap[k]?) : WrV w' B b v xs sp :=
  ⟨Nat.lt_of_lt_of_le h.lt hs, h.low, (World.cell?_of_block (a := ⟨b, 0, none⟩) hp).trans h.c0, (World.cell?_of_block (a := ⟨b, 1, none⟩) hp).trans h.c1, (World.frozen?_of_block (a := ⟨b, 0, none⟩) hp).trans h.f0, (World.frozen?_of_block (a := ⟨b, 1, none⟩) hp).trans h.f1, h.own.keep hk, h.far, by rw [hp]; exact h.blk⟩
theorem WrV.below {w w' : World} {B b : Nat} {v : Value} {xs : List Int} {sp : Bool} (h : WrV w B b v xs sp) (hb : Below w.heap.size w w') : WrV w' B b v xs sp :=
  h.keep hb.size (hb.block b h.lt) (fun k hk => hb.block k (h.own.lt k hk))
theorem far_wr {w : World} {B b : Nat} {v : Value} {ys : List Int} (ho : Own8 w B v ys) (hb : ∃ cs fr, w.heap[b]? = some (.cells cs 144 fr)) : ∀ k, v.ownBlock = some k → k ≠ b := by
  rintro k hk rfl
  exact blk_ne (by decide) (ho.blk k hk) hb
/-- Behind an append the new row is written into the writer. -/
theorem WrV.more {w w2 : World} {B b : Nat} {v v2 : Value} {xs ys : List Int} {sp : Bool} (h : WrV w B b v xs sp) (hg : w.grownBy w2 v.ownBlock) (ho : Own8 w2 B v2 ys) :
    (w2.cell? ⟨b, 0, none⟩ = some v ∧ w2.frozen? ⟨b, 0, none⟩ = false) ∧ WrV (w2.setCell ⟨b, 0, none⟩ v2) B b v2 ys sp := by
  have hp : w2.heap[b]? = w.heap[b]? := hg.block b h.lt (fun e => h.far b e.symm rfl)
  have c0 := (World.cell?_of_block (a := ⟨b, 0, none⟩) hp).trans h.c0
  have c1 := (World.cell?_of_block (a := ⟨b, 1, none⟩) hp).trans h.c1
  have f0 := (World.frozen?_of_block (a := ⟨b, 0, none⟩) hp).trans h.f0
  have f1 := (World.frozen?_of_block (a := ⟨b, 1, none⟩) hp).trans h.f1
  have hblk : ∃ cs fr, w2.heap[b]? = some (.cells cs 144 fr) := by rw [hp]; exact h.blk
  have hf := far_wr ho hblk
  have hlt := Nat.lt_of_lt_of_le h.lt hg.size
  exact ⟨⟨c0, f0⟩, by simpa using hlt, h.low, by simp [go_sem, c0], by simp [go_sem, c1], by simpa [go_sem] using f0, by simpa [go_sem] using f1, ho.set (fun k hk => hf k hk) _, hf, blk_set hblk _ _⟩
theorem WrV.spoil {w : World} {B b : Nat} {v : Value} {xs : List Int} {sp : Bool} (h : WrV w B b v xs sp) : WrV ((w.setCell ⟨b, 1, none⟩ (.bool true)).setCell ⟨b, 0, none⟩ (.slice none 0 0)) B b (.slice none 0 0) [] true := by
  have c0 := h.c0
  have c1 := h.c1
  have f0 := h.f0
  have f1 := h.f1
  exact ⟨by simpa using h.lt, h.low, by simp [go_sem, c0], by simp [go_sem, c1], by simpa [go_sem] using f0, by simpa [go_sem] using f1, Own8.nil _ _, (fun k hk => by cases hk), blk_set (blk_set h.blk _ _) _ _⟩
def WNP (B b : Nat) (v : Value) (ys : List Int) (sp : Bool) (w : World) (e : Ending) (w' : World) : Prop := Hid (e = .returned (.pointer (some ⟨b, 0, none⟩))) ∧ ∃ v', WrV w' B b v' ys sp ∧ Foot w w' b v ∧ Next w v v'
theorem bt_one (w : World) (x : Int) (e : TypeId) (fr : Nat × Nat) : Bt (w.alloc (.cells #[.int .u8 x] e fr)) (.slice (some ⟨w.heap.size, 0, none⟩) 1 1) [x] := by
  have := bt_lit w [x] e fr (by simp)
  simpa using this
set_option maxHeartbeats 1600000 in
theorem vnum_good (B b : Nat) (n : Int) (v0 : Value) (xs : List Int) (w : World) (hW : WrV w B b v0 xs false) (h0 : 0 ≤ n) (h1 : n ≤ 281474976710656) (hl : xs.length ≤ 99999999900) :
    Calls Try.prog 110 #[.pointer (some ⟨b, 0, none⟩), .int .i64 n] w (WNP B b v0 (xs ++ enc n) false w) := by
  have hsz := sizeN_range n
  have hpos : (sizeN n == 0) = false := by
    have := enc_length n h0 h1
    unfold sizeN; rw [if_pos ⟨h0, h1⟩]; have := remN_range (n / 128); simp; omega
  have HW := Lib.hid hW
  have c1 := hW.c1
  have f1 := hW.f1
  clear hW
  go_enter Try.func110, Try.ntmps110
  go_wp2_with (go_at_call 112; refine (size_any _ _).mono ?_; rintro e w1 ⟨rfl, rfl⟩)
  go_loopw [1] (fun a wr => ∃ (m : Int) (ys : List Int) (v : Value), 0 ≤ m ∧ m ≤ 281474976710656 ∧ a = .int .i64 m ∧ Hid (ys ++ enc m = xs ++ enc n) ∧ Hid (WrV wr B b v ys false) ∧ Hid (Foot w wr b v0) ∧ Hid (Next w v0 v)) (fun a _ => (intOf a).toNat)
  case atStart => exact ⟨n, xs, v0, h0, h1, rfl, rfl, HW.out, Foot.refl _ _ _, Next.refl _ _⟩
  case round =>
    clear c1 f1 HW
    obtain ⟨m, ys, v, hm0, hm1, rfl, hH, hWr, hF, hN⟩ := hrel
    have hy : ys.length ≤ 99999999908 := by
      have a1 := congrArg List.length hH.out
      have a2 := enc_length n h0 h1
      simp at a1
      omega
    have hy1 : ys.length + 1 ≤ 100000000000 := by omega
    have c1 := hWr.out.c1
    have f1 := hWr.out.f1
    have c0 := hWr.out.c0
    have f0 := hWr.out.f0
    have hlt2 := hWr.out.lt
    have hB : B ≤ wr.heap.size := by have := hWr.out.low; omega
    have hB1 : B ≤ wr.heap.size + 1 := by omega
    obtain ⟨sa, sc, rfl⟩ := hWr.out.own.slice
    by_cases hlt : 128 ≤ m
    · have HE := Lib.hid (enc_step m hlt (by omega))
      have HB := Lib.hid (or128 m hm0)
      go_wp2_with (refine wpList_app8N rfl _ _ rfl B _ ys rfl (hWr.out.own.below ((Below.refl _ _).alloc (Nat.le_refl _) _)) _ [bits BinOp.or IntKind.u8 (m % 256) 128] rfl (bt_one _ _ _ _) hy1 (by simpa using hB1) ?_)
      intro v2 w2 ho hg hn
      obtain ⟨a2, c2, rfl⟩ := ho.slice
      have HA := Lib.hid (hWr.out.below ((Below.refl wr.heap.size wr).alloc (Nat.le_refl _) (.cells #[.int .u8 (bits BinOp.or IntKind.u8 (m % 256) 128)] 5)))
      have hm2 := HA.out.more hg ho
      have HM := Lib.hid hm2.2
      obtain ⟨e0, e1⟩ := hm2.1
      have HG := Lib.hid (Foot.grown (p := b) ((Below.refl wr.heap.size wr).alloc (Nat.le_refl _) _) hg)
      have HN2 := Lib.hid hn
      have hz : b < w2.heap.size := by have := hg.size; simp at this; omega
      have HL : Hid ((ys ++ [bits BinOp.or IntKind.u8 (m % 256) 128]).length = ys.length + 1) := by show _ = _; simp
      clear hm2 ho hg hn
      go_wp2_with fail
      refine ⟨⟨m / 128, ys ++ [m % 128 + 128], .slice a2 (ys.length + 1) c2, by omega, by omega, rfl, ?_, ?_, ?_, ?_⟩, ?_⟩
      · show (ys ++ [m % 128 + 128]) ++ enc (m / 128) = xs ++ enc n
        rw [← hH.out, HE.out]; simp
      · have := HM.out
        rw [HB.out] at this
        exact Lib.hid (by simpa using this)
      · exact hF.out.trans (HG.out.set 0 _) hN.out
      · refine hN.out.trans (w1 := wr) (fun k hk => ?_) hF.out.size
        rcases HN2.out k (by simpa [Value.ownBlock] using hk) with q | q
        · exact .inl q
        · exact .inr (by simp at q; omega)
      · simp [intOf]; omega
    · have HE := Lib.hid (enc_small m (by omega))
      go_wp2_with (refine wpList_app8N rfl _ _ rfl B _ ys rfl (hWr.out.own.below ((Below.refl _ _).alloc (Nat.le_refl _) _)) _ [m] rfl (bt_one _ _ _ _) hy1 (by simpa using hB1) ?_)
      intro v2 w2 ho hg hn
      obtain ⟨a2, c2, rfl⟩ := ho.slice
      have HA := Lib.hid (hWr.out.below ((Below.refl wr.heap.size wr).alloc (Nat.le_refl _) (.cells #[.int .u8 m] 5)))
      have hm2 := HA.out.more hg ho
      have HM := Lib.hid hm2.2
      obtain ⟨e0, e1⟩ := hm2.1
      have HG := Lib.hid (Foot.grown (p := b) ((Below.refl wr.heap.size wr).alloc (Nat.le_refl _) _) hg)
      have HN2 := Lib.hid hn
      have hz : b < w2.heap.size := by have := hg.size; simp at this; omega
      clear hm2 ho hg hn
      go_wp2_with fail
      go_ret
      refine ⟨rfl, .slice a2 (ys.length + 1) c2, ?_, hF.out.trans (HG.out.set 0 _) hN.out, hN.out.trans (w1 := wr) (fun k hk => ?_) hF.out.size⟩
      · have := HM.out
        rw [← hH.out, HE.out]
        simpa using this
      · rcases HN2.out k (by simpa [Value.ownBlock] using hk) with q | q
        · exact .inl q
        · exact .inr (by simp at q; omega)
set_option maxHeartbeats 1600000 in
theorem vnum_bad (B b : Nat) (n : Int) (v0 : Value) (xs : List Int) (sp : Bool) (w : World) (hW : WrV w B b v0 xs sp) (hn : ¬ (0 ≤ n ∧ n ≤ 281474976710656)) :
    Calls Try.prog 110 #[.pointer (some ⟨b, 0, none⟩), .int .i64 n] w (WNP B b v0 [] true w) := by
  have E := Lib.hid (sizeN_bad hn)
  have HW := Lib.hid hW
  have c1 := hW.c1
  have f1 := hW.f1
  have c0 := hW.c0
  have f0 := hW.f0
  have hlt := hW.lt
  clear hW
  go_enter Try.func110, Try.ntmps110
  go_wp2_with (go_at_call 112; refine (size_any _ _).mono ?_; rw [E.out]; rintro e w1 ⟨rfl, rfl⟩)
  go_ret
  exact ⟨rfl, _, HW.out.spoil, ((Foot.refl _ _ _).set 1 _).set 0 _, fun k hk => by cases hk⟩
set_option maxHeartbeats 1600000 in
theorem vnum_spoilt (B b : Nat) (n : Int) (v0 : Value) (w : World) (hW : WrV w B b v0 [] true) :
    Calls Try.prog 110 #[.pointer (some ⟨b, 0, none⟩), .int .i64 n] w (WNP B b v0 [] true w) := by
  by_cases hn : 0 ≤ n ∧ n ≤ 281474976710656
  · have hpos : (sizeN n == 0) = false := by
      unfold sizeN; rw [if_pos hn]; have := remN_range (n / 128); simp; omega
    have HW := Lib.hid hW
    have c1 := hW.c1
    have f1 := hW.f1
    clear hW
    go_enter Try.func110, Try.ntmps110
    go_wp2_with (go_at_call 112; refine (size_any _ _).mono ?_; rintro e w1 ⟨rfl, rfl⟩)
    go_ret
    exact ⟨rfl, _, HW.out, Foot.refl _ _ _, Next.refl _ _⟩
  · exact vnum_bad B b n v0 [] true w hW hn
set_option maxRecDepth 100000 in
set_option maxHeartbeats 1600000 in
theorem vtext_good (B b : Nat) (s : ByteArray) (v0 : Value) (xs : List Int) (w : World) (hW : WrV w B b v0 xs false) (hl : xs.length ≤ 99999999800) (hs : s.size ≤ 100000000) :
    Calls Try.prog 111 #[.pointer (some ⟨b, 0, none⟩), .string s] w (WNP B b v0 (xs ++ (enc s.size ++ byt s)) false w) := by
  have el := enc_length s.size (by omega) (by omega)
  have er := sizeN_range s.size
  have hL : (xs ++ enc s.size).length + s.size ≤ 140000000000000 := by rw [List.length_append]; omega
  have h0 : (0 : Int) ≤ s.size := by omega
  have h1 : (s.size : Int) ≤ 281474976710656 := by omega
  have hl' : xs.length ≤ 99999999900 := by omega
  have HEl := Lib.hid el
  clear el er
  have HW := Lib.hid hW
  clear hW
  go_enter Try.func111, Try.ntmps111
  go_wp2_with fail
  refine (vnum_good B b _ v0 xs _ HW.out h0 h1 hl').mono ?_
  rintro e w1 ⟨he, v1, hW1, hF1, hN1⟩
  rw [he.out]
  clear he
  have H1 := Lib.hid hW1
  have F1 := Lib.hid hF1
  have N1 := Lib.hid hN1
  have c0 := hW1.c0
  have c1 := hW1.c1
  have f0 := hW1.f0
  have f1 := hW1.f1
  have hB : B ≤ w1.heap.size := by have := hW1.low; have := hW1.lt; omega
  obtain ⟨X, hX⟩ : ∃ X, xs ++ enc s.size = X := ⟨_, rfl⟩
  rw [hX] at H1 hL
  have HX := Lib.hid hX
  clear hX hW1 hF1 hN1
  obtain ⟨sa, sc, rfl⟩ := H1.out.own.slice
  go_wp2_with (refine wpList_appStrN rfl _ _ rfl B _ X rfl H1.out.own s rfl hL hB ?_)
  intro v2 w2 ho hg hn
  obtain ⟨Y, hY⟩ : ∃ Y, X ++ byt s = Y := ⟨_, rfl⟩
  rw [hY] at ho
  have HY := Lib.hid hY
  clear hY
  obtain ⟨a2, c2, rfl⟩ := ho.slice
  have hm2 := H1.out.more hg ho
  have HM := Lib.hid hm2.2
  obtain ⟨e0, e1⟩ := hm2.1
  have HG := Lib.hid (Foot.grown (p := b) (Below.refl _ _) hg)
  have HN2 := Lib.hid hn
  have hz : b < w2.heap.size := by have := hg.size; have := H1.out.lt; omega
  clear hm2 ho hg hn
  go_wp2_with fail
  go_ret
  refine ⟨rfl, .slice a2 Y.length c2, ?_, F1.out.trans (HG.out.set 0 _) N1.out, N1.out.trans (w1 := w1) HN2.out F1.out.size⟩
  have := HM.out
  rw [← List.append_assoc, HX.out, HY.out]
  simpa using this
set_option maxHeartbeats 1600000 in
theorem vtext_spoilt (B b : Nat) (s : ByteArray) (v0 : Value) (w : World) (hW : WrV w B b v0 [] true) :
    Calls Try.prog 111 #[.pointer (some ⟨b, 0, none⟩), .string s] w (WNP B b v0 [] true w) := by
  have HW := Lib.hid hW
  clear hW
  go_enter Try.func111, Try.ntmps111
  go_wp2_with fail
  refine (vnum_spoilt B b _ v0 _ HW.out).mono ?_
  rintro e w1 ⟨he, v1, hW1, hF1, hN1⟩
  rw [he.out]
  clear he
  have H1 := Lib.hid hW1
  have F1 := Lib.hid hF1
  have N1 := Lib.hid hN1
  have c1 := hW1.c1
  have f1 := hW1.f1
  clear hW1 hF1 hN1
  go_wp2_with fail
  go_ret
  exact ⟨rfl, _, H1.out, F1.out, N1.out⟩
def WBP (xs : List Int) (w : World) (e : Ending) (w' : World) : Prop := ∃ v, Hid (e = .returned (.tuple #[v, .int .i64 0])) ∧ Own8 w' w.heap.size v xs ∧ Below w.heap.size w w'
set_option maxHeartbeats 1600000 in
theorem vbytes_bad (B b : Nat) (v0 : Value) (w : World) (hW : WrV w B b v0 [] true) :
    Calls Try.prog 51 #[.pointer (some ⟨b, 0, none⟩)] w fun e w' => e = .returned (.tuple #[.slice none 0 0, .int .i64 1]) ∧ w = w' := by
  have c1 := hW.c1
  have f1 := hW.f1
  clear hW
  go_enter Try.func51, Try.ntmps51
  go_wp2
  go_ret2
  exact ⟨rfl, rfl⟩
set_option maxHeartbeats 1600000 in
theorem vbytes_good (B b : Nat) (v0 : Value) (xs : List Int) (w : World) (hW : WrV w B b v0 xs false) (hl : xs.length ≤ 99999999900) :
    Calls Try.prog 51 #[.pointer (some ⟨b, 0, none⟩)] w (WBP xs w) := by
  have c1 := hW.c1
  have f1 := hW.f1
  have c0 := hW.c0
  have f0 := hW.f0
  have HY := Lib.hid (hW.own.bt (by omega))
  obtain ⟨sa, sc, rfl⟩ := hW.own.slice
  have hl2 : ([] : List Int).length + xs.length ≤ 100000000000 := by simp; omega
  clear hW
  go_enter Try.func51, Try.ntmps51
  go_wp2_with (refine wpList_app8N rfl _ _ rfl w.heap.size (.slice none 0 0) [] rfl (Own8.nil _ _) _ xs rfl HY.out hl2 (Nat.le_refl _) ?_)
  intro v2 w2 ho hg hn
  have HO := Lib.hid ho
  have HB := Lib.hid ((Below.refl w.heap.size w).grown hg (Nat.le_refl _) (fun k h => by cases h))
  clear ho hg hn
  go_wp2_with fail
  go_ret2
  exact ⟨v2, rfl, by simpa using HO.out, HB.out⟩
end Go.Proofs.Ytllcmapgigfgoaa
