/-
  Texts put together: Nf, Num4, Num5, Rn6.
-/
import Derived.Test.YtnancdbkmompdaaGreatRY
import Derived.Test.YtnancdbkmompdaaGreatRQA
import Derived.Lib.AppendStr
import Derived.Scope
import Derived.ScopeJumps
import Derived.WalkMore
import Derived.RegionTactic
import Derived.ChangeAlike
import Derived.BigRegion
namespace Go.Proofs.YtnancdbkmompdaaGreat
open Go.RowKit
set_option linter.unusedSimpArgs false
set_option linter.unusedVariables false
set_option maxRecDepth 100000
set_option maxHeartbeats 40000000
/-- A writer at block b: what it has written, and whether it is spoilt; its row is v. -/
structure WrV (w : World) (B b : Nat) (v : Value) (xs : List Int) (sp : Bool) : Prop where
 lt : b < w.heap.size
 low : B ≤ b
 c0 : w.cell? ⟨b, 0, none⟩ = some v
 c1 : w.cell? ⟨b, 1, none⟩ = some (.bool sp)
 f0 : w.frozen? ⟨b, 0, none⟩ = false
 f1 : w.frozen? ⟨b, 1, none⟩ = false
 own : Own8 w B v xs
 far : ∀ k, v.ownBlock = some k → k ≠ b
 blk : ∃ cs fr, w.heap[b]? = some (.cells cs 162 fr)
theorem WrV.keep {w w' : World} {B b : Nat} {v : Value} {xs : List Int} {sp : Bool} (h : WrV w B b v xs sp) (hs : w.heap.size ≤ w'.heap.size) (hp : w'.heap[b]? = w.heap[b]?) (hk : ∀ k, v.ownBlock = some k → w'.heap[k]? = w.heap[k]?) : WrV w' B b v xs sp :=
 ⟨Nat.lt_of_lt_of_le h.lt hs, h.low, (World.cell?_of_block (a := ⟨b, 0, none⟩) hp).trans h.c0, (World.cell?_of_block (a := ⟨b, 1, none⟩) hp).trans h.c1, (World.frozen?_of_block (a := ⟨b, 0, none⟩) hp).trans h.f0, (World.frozen?_of_block (a := ⟨b, 1, none⟩) hp).trans h.f1, h.own.keep hk, h.far, by rw [hp]; exact h.blk⟩
theorem WrV.below {w w' : World} {B b : Nat} {v : Value} {xs : List Int} {sp : Bool} (h : WrV w B b v xs sp) (hb : Below w.heap.size w w') : WrV w' B b v xs sp :=
 h.keep hb.size (hb.block b h.lt) (fun k hk => hb.block k (h.own.lt k hk))
theorem far_wr {w : World} {B b : Nat} {v : Value} {ys : List Int} (ho : Own8 w B v ys) (hb : ∃ cs fr, w.heap[b]? = some (.cells cs 162 fr)) : ∀ k, v.ownBlock = some k → k ≠ b := by
 rintro k hk rfl
 exact blk_ne (by decide) (ho.blk k hk) hb
/-- Behind an append the new row is written into the writer. -/
theorem WrV.more {w w2 : World} {B b : Nat} {v v2 : Value} {xs ys : List Int} {sp : Bool} (h : WrV w B b v xs sp) (hg : w.grownBy w2 v.ownBlock) (ho : Own8 w2 B v2 ys) :
  (w2.cell? ⟨b, 0, none⟩ = some v ∧ w2.frozen? ⟨b, 0, none⟩ = false) ∧ WrV (w2.setCell ⟨b, 0, none⟩ v2) B b v2 ys sp := by
 have hp : w2.heap[b]? = w.heap[b]? := hg.block b h.lt (fun e => h.far b e.symm rfl)
 have c0 := (World.cell?_of_block (a := ⟨b, 0, none⟩) hp).trans h.c0
 have c1 := (World.cell?_of_block (a := ⟨b, 1, none⟩) hp).trans h.c1
 have f0 := (World.frozen?_of_block (a := ⟨b, 0, none⟩) hp).trans h.f0
 have f1 := (World.frozen?_of_block (a := ⟨b, 1, none⟩) hp).trans h.f1
 have hblk : ∃ cs fr, w2.heap[b]? = some (.cells cs 162 fr) := by rw [hp]; exact h.blk
 have hf := far_wr ho hblk
 have hlt := Nat.lt_of_lt_of_le h.lt hg.size
 exact ⟨⟨c0, f0⟩, by simpa using hlt, h.low, by simp [go_sem, c0], by simp [go_sem, c1], by simpa [go_sem] using f0, by simpa [go_sem] using f1, ho.set (fun k hk => hf k hk) _, hf, blk_set hblk _ _⟩
theorem WrV.spoil {w : World} {B b : Nat} {v : Value} {xs : List Int} {sp : Bool} (h : WrV w B b v xs sp) : WrV ((w.setCell ⟨b, 1, none⟩ (.bool true)).setCell ⟨b, 0, none⟩ (.slice none 0 0)) B b (.slice none 0 0) [] true := by
 have c0 := h.c0
 have c1 := h.c1
 have f0 := h.f0
 have f1 := h.f1
 exact ⟨by simpa using h.lt, h.low, by simp [go_sem, c0], by simp [go_sem, c1], by simpa [go_sem] using f0, by simpa [go_sem] using f1, Own8.nil _ _, (fun k hk => by cases hk), blk_set (blk_set h.blk _ _) _ _⟩
def WNP (B b : Nat) (v : Value) (ys : List Int) (sp : Bool) (w : World) (e : Ending) (w' : World) : Prop := Hid (e = .returned (.pointer (some ⟨b, 0, none⟩))) ∧ ∃ v', WrV w' B b v' ys sp ∧ Foot w w' b v ∧ Next w v v'
theorem bt_one (w : World) (x : Int) (e : TypeId) (fr : Nat × Nat) : Bt (w.alloc (.cells #[.int .u8 x] e fr)) (.slice (some ⟨w.heap.size, 0, none⟩) 1 1) [x] := by
 have := bt_lit w [x] e fr (by simp)
 simpa using this
theorem vnum_good (B b : Nat) (n : Int) (v0 : Value) (xs : List Int) (w : World) (hW : WrV w B b v0 xs false) (h0 : 0 ≤ n) (h1 : n ≤ 281474976710656) (hl : xs.length ≤ 99999999900) :
  Calls Tryz.prog 151 #[.pointer (some ⟨b, 0, none⟩), .int .i64 n] w (WNP B b v0 (xs ++ enc n) false w) := by
 have hsz := sizeN_range n
 have hpos : (sizeN n == 0) = false := by
  have := enc_length n h0 h1
  unfold sizeN; rw [if_pos ⟨h0, h1⟩]; have := remN_range (n / 128); simp; omega
 have HW := Hd hW
 have c1 := hW.c1
 have f1 := hW.f1
 clear hW
 go_enter Tryz.func151, Tryz.ntmps151
 go_wp2_with (go_at_call 145; refine (size_any _ _).mono ?_; rintro e w1 ⟨rfl, rfl⟩)
 go_loopw [1] (fun a wr => ∃ (m : Int) (ys : List Int) (v : Value), 0 ≤ m ∧ m ≤ 281474976710656 ∧ a = .int .i64 m ∧ Hid (ys ++ enc m = xs ++ enc n) ∧ Hid (WrV wr B b v ys false) ∧ Hid (Foot w wr b v0) ∧ Hid (Next w v0 v)) (fun a _ => (intOf a).toNat)
 case atStart => exact ⟨n, xs, v0, h0, h1, rfl, rfl, HW.out, Foot.refl _ _ _, Next.refl _ _⟩
 case round =>
  clear c1 f1 HW
  obtain ⟨m, ys, v, hm0, hm1, rfl, hH, hWr, hF, hN⟩ := hrel
  have hy : ys.length ≤ 99999999908 := by
   have a1 := congrArg List.length hH.out
   have a2 := enc_length n h0 h1
   simp at a1
   omega
  have hy1 : ys.length + 1 ≤ 100000000000 := by omega
  have c1 := hWr.out.c1
  have f1 := hWr.out.f1
  have c0 := hWr.out.c0
  have f0 := hWr.out.f0
  have hlt2 := hWr.out.lt
  have hB : B ≤ wr.heap.size := by have := hWr.out.low; omega
  have hB1 : B ≤ wr.heap.size + 1 := by omega
  obtain ⟨sa, sc, rfl⟩ := hWr.out.own.slice
  by_cases hlt : 128 ≤ m
  ·have HE := Hd (enc_step m hlt (by omega))
   have HB := Hd (or128 m hm0)
   go_wp2_with (refine wpList_app8N rfl _ _ rfl B _ ys rfl (hWr.out.own.below ((Below.refl _ _).alloc (Nat.le_refl _) _)) _ [bits BinOp.or IntKind.u8 (m % 256) 128] rfl (bt_one _ _ _ _) hy1 (by simpa using hB1) ?_)
   intro v2 w2 ho hg hn
   obtain ⟨a2, c2, rfl⟩ := ho.slice
   have HA := Hd (hWr.out.below ((Below.refl wr.heap.size wr).alloc (Nat.le_refl _) (.cells #[.int .u8 (bits BinOp.or IntKind.u8 (m % 256) 128)] 5)))
   have hm2 := HA.out.more hg ho
   have HM := Hd hm2.2
   obtain ⟨e0, e1⟩ := hm2.1
   have HG := Hd (Foot.grown (p := b) ((Below.refl wr.heap.size wr).alloc (Nat.le_refl _) _) hg)
   have HN2 := Hd hn
   have hz : b < w2.heap.size := by have := hg.size; simp at this; omega
   have HL : Hid ((ys ++ [bits BinOp.or IntKind.u8 (m % 256) 128]).length = ys.length + 1) := by show _ = _; simp
   clear hm2 ho hg hn
   go_wp2_with fail
   refine ⟨⟨m / 128, ys ++ [m % 128 + 128], .slice a2 (ys.length + 1) c2, by omega, by omega, rfl, ?_, ?_, ?_, ?_⟩, ?_⟩
   ·show (ys ++ [m % 128 + 128]) ++ enc (m / 128) = xs ++ enc n
    rw [← hH.out, HE.out]; simp
   ·have := HM.out
    rw [HB.out] at this
    exact Hd (by simpa using this)
   ·exact hF.out.trans (HG.out.set 0 _) hN.out
   ·refine hN.out.trans (w1 := wr) (fun k hk => ?_) hF.out.size
    rcases HN2.out k (by simpa [Value.ownBlock] using hk) with q | q
    ·exact .inl q
    ·exact .inr (by simp at q; omega)
   ·simp [intOf]; omega
  ·have HE := Hd (enc_small m (by omega))
   go_wp2_with (refine wpList_app8N rfl _ _ rfl B _ ys rfl (hWr.out.own.below ((Below.refl _ _).alloc (Nat.le_refl _) _)) _ [m] rfl (bt_one _ _ _ _) hy1 (by simpa using hB1) ?_)
   intro v2 w2 ho hg hn
   obtain ⟨a2, c2, rfl⟩ := ho.slice
   have HA := Hd (hWr.out.below ((Below.refl wr.heap.size wr).alloc (Nat.le_refl _) (.cells #[.int .u8 m] 5)))
   have hm2 := HA.out.more hg ho
   have HM := Hd hm2.2
   obtain ⟨e0, e1⟩ := hm2.1
   have HG := Hd (Foot.grown (p := b) ((Below.refl wr.heap.size wr).alloc (Nat.le_refl _) _) hg)
   have HN2 := Hd hn
   have hz : b < w2.heap.size := by have := hg.size; simp at this; omega
   clear hm2 ho hg hn
   go_wp2_with fail
   go_ret
   refine ⟨rfl, .slice a2 (ys.length + 1) c2, ?_, hF.out.trans (HG.out.set 0 _) hN.out, hN.out.trans (w1 := wr) (fun k hk => ?_) hF.out.size⟩
   ·have := HM.out
    rw [← hH.out, HE.out]
    simpa using this
   ·rcases HN2.out k (by simpa [Value.ownBlock] using hk) with q | q
    ·exact .inl q
    ·exact .inr (by simp at q; omega)
theorem vnum_bad (B b : Nat) (n : Int) (v0 : Value) (xs : List Int) (sp : Bool) (w : World) (hW : WrV w B b v0 xs sp) (hn : ¬ (0 ≤ n ∧ n ≤ 281474976710656)) :
  Calls Tryz.prog 151 #[.pointer (some ⟨b, 0, none⟩), .int .i64 n] w (WNP B b v0 [] true w) := by
 have E := Hd (sizeN_bad hn)
 have HW := Hd hW
 have c1 := hW.c1
 have f1 := hW.f1
 have c0 := hW.c0
 have f0 := hW.f0
 have hlt := hW.lt
 clear hW
 go_enter Tryz.func151, Tryz.ntmps151
 go_wp2_with (go_at_call 145; refine (size_any _ _).mono ?_; rw [E.out]; rintro e w1 ⟨rfl, rfl⟩)
 go_ret
 exact ⟨rfl, _, HW.out.spoil, ((Foot.refl _ _ _).set 1 _).set 0 _, fun k hk => by cases hk⟩
theorem vnum_spoilt (B b : Nat) (n : Int) (v0 : Value) (w : World) (hW : WrV w B b v0 [] true) :
  Calls Tryz.prog 151 #[.pointer (some ⟨b, 0, none⟩), .int .i64 n] w (WNP B b v0 [] true w) := by
 by_cases hn : 0 ≤ n ∧ n ≤ 281474976710656
 ·have hpos : (sizeN n == 0) = false := by
   unfold sizeN; rw [if_pos hn]; have := remN_range (n / 128); simp; omega
  have HW := Hd hW
  have c1 := hW.c1
  have f1 := hW.f1
  clear hW
  go_enter Tryz.func151, Tryz.ntmps151
  go_wp2_with (go_at_call 145; refine (size_any _ _).mono ?_; rintro e w1 ⟨rfl, rfl⟩)
  go_ret
  exact ⟨rfl, _, HW.out, Foot.refl _ _ _, Next.refl _ _⟩
 ·exact vnum_bad B b n v0 [] true w hW hn
theorem vtext_good (B b : Nat) (s : ByteArray) (v0 : Value) (xs : List Int) (w : World) (hW : WrV w B b v0 xs false) (hl : xs.length ≤ 99999999800) (hs : s.size ≤ 100000000) :
  Calls Tryz.prog 152 #[.pointer (some ⟨b, 0, none⟩), .string s] w (WNP B b v0 (xs ++ (enc s.size ++ byt s)) false w) := by
 have el := enc_length s.size (by omega) (by omega)
 have er := sizeN_range s.size
 have hL : (xs ++ enc s.size).length + s.size ≤ 140000000000000 := by rw [List.length_append]; omega
 have h0 : (0 : Int) ≤ s.size := by omega
 have h1 : (s.size : Int) ≤ 281474976710656 := by omega
 have hl' : xs.length ≤ 99999999900 := by omega
 have HEl := Hd el
 clear el er
 have HW := Hd hW
 clear hW
 go_enter Tryz.func152, Tryz.ntmps152
 go_wp2_with fail
 refine (vnum_good B b _ v0 xs _ HW.out h0 h1 hl').mono ?_
 rintro e w1 ⟨he, v1, hW1, hF1, hN1⟩
 rw [he.out]
 clear he
 have H1 := Hd hW1
 have F1 := Hd hF1
 have N1 := Hd hN1
 have c0 := hW1.c0
 have c1 := hW1.c1
 have f0 := hW1.f0
 have f1 := hW1.f1
 have hB : B ≤ w1.heap.size := by have := hW1.low; have := hW1.lt; omega
 obtain ⟨X, hX⟩ : ∃ X, xs ++ enc s.size = X := ⟨_, rfl⟩
 rw [hX] at H1 hL
 have HX := Hd hX
 clear hX hW1 hF1 hN1
 obtain ⟨sa, sc, rfl⟩ := H1.out.own.slice
 go_wp2_with (refine wpList_appStrN rfl _ _ rfl B _ X rfl H1.out.own s rfl hL hB ?_)
 intro v2 w2 ho hg hn
 obtain ⟨Y, hY⟩ : ∃ Y, X ++ byt s = Y := ⟨_, rfl⟩
 rw [hY] at ho
 have HY := Hd hY
 clear hY
 obtain ⟨a2, c2, rfl⟩ := ho.slice
 have hm2 := H1.out.more hg ho
 have HM := Hd hm2.2
 obtain ⟨e0, e1⟩ := hm2.1
 have HG := Hd (Foot.grown (p := b) (Below.refl _ _) hg)
 have HN2 := Hd hn
 have hz : b < w2.heap.size := by have := hg.size; have := H1.out.lt; omega
 clear hm2 ho hg hn
 go_wp2_with fail
 go_ret
 refine ⟨rfl, .slice a2 Y.length c2, ?_, F1.out.trans (HG.out.set 0 _) N1.out, N1.out.trans (w1 := w1) HN2.out F1.out.size⟩
 have := HM.out
 rw [← List.append_assoc, HX.out, HY.out]
 simpa using this
theorem vtext_spoilt (B b : Nat) (s : ByteArray) (v0 : Value) (w : World) (hW : WrV w B b v0 [] true) :
  Calls Tryz.prog 152 #[.pointer (some ⟨b, 0, none⟩), .string s] w (WNP B b v0 [] true w) := by
 have HW := Hd hW
 clear hW
 go_enter Tryz.func152, Tryz.ntmps152
 go_wp2_with fail
 refine (vnum_spoilt B b _ v0 _ HW.out).mono ?_
 rintro e w1 ⟨he, v1, hW1, hF1, hN1⟩
 rw [he.out]
 clear he
 have H1 := Hd hW1
 have F1 := Hd hF1
 have N1 := Hd hN1
 have c1 := hW1.c1
 have f1 := hW1.f1
 clear hW1 hF1 hN1
 go_wp2_with fail
 go_ret
 exact ⟨rfl, _, H1.out, F1.out, N1.out⟩
def WBP (xs : List Int) (w : World) (e : Ending) (w' : World) : Prop := ∃ v, Hid (e = .returned (.tuple #[v, .int .i64 0])) ∧ Own8 w' w.heap.size v xs ∧ Below w.heap.size w w'
theorem vbytes_bad (B b : Nat) (v0 : Value) (w : World) (hW : WrV w B b v0 [] true) :
  Calls Tryz.prog 64 #[.pointer (some ⟨b, 0, none⟩)] w fun e w' => e = .returned (.tuple #[.slice none 0 0, .int .i64 1]) ∧ w = w' := by
 have c1 := hW.c1
 have f1 := hW.f1
 clear hW
 go_enter Tryz.func64, Tryz.ntmps64
 go_wp2
 go_ret2
 exact ⟨rfl, rfl⟩
theorem vbytes_good (B b : Nat) (v0 : Value) (xs : List Int) (w : World) (hW : WrV w B b v0 xs false) (hl : xs.length ≤ 99999999900) :
  Calls Tryz.prog 64 #[.pointer (some ⟨b, 0, none⟩)] w (WBP xs w) := by
 have c1 := hW.c1
 have f1 := hW.f1
 have c0 := hW.c0
 have f0 := hW.f0
 have HY := Hd (hW.own.bt (by omega))
 obtain ⟨sa, sc, rfl⟩ := hW.own.slice
 have hl2 : ([] : List Int).length + xs.length ≤ 100000000000 := by simp; omega
 clear hW
 go_enter Tryz.func64, Tryz.ntmps64
 go_wp2_with (refine wpList_app8N rfl _ _ rfl w.heap.size (.slice none 0 0) [] rfl (Own8.nil _ _) _ xs rfl HY.out hl2 (Nat.le_refl _) ?_)
 intro v2 w2 ho hg hn
 have HO := Hd ho
 have HB := Hd ((Below.refl w.heap.size w).grown hg (Nat.le_refl _) (fun k h => by cases h))
 clear ho hg hn
 go_wp2_with fail
 go_ret2
 exact ⟨v2, rfl, by simpa using HO.out, HB.out⟩
/-- A reader that lies in block b: what is left, and what is wrong. -/
structure RdAt (w : World) (b : Nat) (xs : List Int) (er : Int) : Prop where
 wrong : w.cell? ⟨b, 1, none⟩ = some (.int .i64 er)
 free0 : w.frozen? ⟨b, 0, none⟩ = false
 free1 : w.frozen? ⟨b, 1, none⟩ = false
 size : b < w.heap.size
 left : ∃ a cap, w.cell? ⟨b, 0, none⟩ = some (.slice a xs.length cap) ∧ BRd w a xs ∧ Fits a xs cap
 apart : ∀ a cap, w.cell? ⟨b, 0, none⟩ = some (.slice (some a) xs.length cap) → a.block ≠ b
def endN (xs : List Int) (er : Int) : Int := if er = 0 ∧ 0 < xs.length then 11 else er
theorem end_any (b : Nat) (xs : List Int) (er : Int) (w : World) (h : RdAt w b xs er) :
  Calls Tryz.prog 78 #[.pointer (some ⟨b, 0, none⟩)] w fun e w' => e = .returned (.int .i64 (endN xs er)) ∧ w = w' := by
 obtain ⟨c1, f0, f1, hs, ⟨a, cap, c0, hb, hn⟩, ha⟩ := h
 have HA := Hd ha
 clear ha hn hb
 by_cases g : er = 0
 ·subst g
  by_cases g2 : 0 < xs.length
  ·have e : endN xs 0 = 11 := by unfold endN; rw [if_pos ⟨rfl, g2⟩]
   rw [e]
   have p : (0 : Int) < (xs.length : Int) := by omega
   go_enter Tryz.func78, Tryz.ntmps78
   go_wp2
   go_ret
   exact ⟨rfl, rfl⟩
  ·have hx : xs = [] := List.eq_nil_of_length_eq_zero (by omega)
   subst hx
   have e : endN [] 0 = 0 := by simp [endN]
   rw [e]
   go_enter Tryz.func78, Tryz.ntmps78
   go_wp2
   go_ret
   exact ⟨rfl, rfl⟩
 ·have e : endN xs er = er := by simp [endN, g]
  rw [e]
  have q : (er == 0) = false := by simpa using g
  go_enter Tryz.func78, Tryz.ntmps78
  go_wp2
  go_ret
  exact ⟨rfl, rfl⟩
theorem rdat_box {w : World} {a : Option Addr} {cap : Nat} {xs : List Int} {t : TypeId} (h : BRd w a xs) (hn : Fits a xs cap) (hlt : ∀ ad, a = some ad → ad.block < w.heap.size) :
  RdAt (w.alloc (.cells #[.slice a xs.length cap, .int .i64 0] t)) w.heap.size xs 0 := by
 refine ⟨by simp [go_sem], by simp [go_sem], by simp [go_sem], by simp, ⟨a, cap, by simp [go_sem], h.below ((Below.refl _ _).alloc (Nat.le_refl _) _), hn⟩, ?_⟩
 intro ad cap2 hc
 have e : (w.alloc (.cells #[.slice a xs.length cap, .int .i64 0] t)).cell? ⟨w.heap.size, 0, none⟩ = some (.slice a xs.length cap) := by simp [go_sem]
 rw [e] at hc
 simp at hc
 have := hlt ad hc.1
 omega
/-- What number answers, digit by digit. -/
def numG : Nat → Nat → Int → List Int → Int × Int × Int
 | 0, _, _, _ => (0, 0, 11)
 | _ + 1, _, _, [] => (0, 0, 10)
 | f + 1, i, acc, x :: r => if 128 ≤ x then numG f (i + 1) (acc + 128 ^ i * (x % 128)) r else if sizeN (acc + 128 ^ i * (x % 128)) = (i : Int) + 1 then (acc + 128 ^ i * (x % 128), (i : Int) + 1, 0) else (0, 0, 11)
theorem wraps_i64 (n : Int) (h₀ : 0 ≤ n) (h₁ : n < 2 ^ 62) : IntKind.i64.wrap n = n := by rw [IntKind.wrap_i64]; omega
theorem and127 (x : Int) (h0 : 0 ≤ x) (h1 : x ≤ 255) : bits BinOp.and IntKind.u8 x 127 = x % 128 := by
 have := bits_mask .u8 8 (by decide) wraps_u8 7 (by decide) x h0 (by omega)
 simpa using this
theorem or_digit (i : Nat) (hi : i ≤ 7) (n x : Int) (hn0 : 0 ≤ n) (hn : n < 128 ^ i) (h0 : 0 ≤ x) (h1 : x ≤ 255) :
  bits BinOp.or IntKind.i64 n (wrap64 (wrap64 (bits BinOp.and IntKind.u8 x 127) * 2 ^ (7 * i))) = n + 128 ^ i * (x % 128) := by
 rw [and127 x h0 h1, IntWalk.wrap64_in (x % 128) ⟨by omega, by omega⟩]
 obtain ⟨a, rfl⟩ := Int.eq_ofNat_of_zero_le hn0
 obtain ⟨y, hy⟩ := Int.eq_ofNat_of_zero_le (show 0 ≤ x % 128 by omega)
 have hy2 : y < 128 := by omega
 rw [hy]
 have e : ((128 : Int) ^ i) = ((2 ^ (7 * i) : Nat) : Int) := by
  rw [Nat.pow_mul]; simp
 have e2 : ((2 : Int) ^ (7 * i)) = ((2 ^ (7 * i) : Nat) : Int) := by simp
 have hp : 2 ^ (7 * i) ≤ 2 ^ 49 := Nat.pow_le_pow_right (by decide) (by omega)
 have hp1 : 1 ≤ 2 ^ (7 * i) := Nat.one_le_two_pow
 rw [e] at hn ⊢
 rw [e2]
 have ha : a < 2 ^ (7 * i) := by exact_mod_cast hn
 generalize hP : 2 ^ (7 * i) = P at *
 have hb : P * y < 2 ^ 62 := by
  have : P * y ≤ 2 ^ 49 * 128 := Nat.mul_le_mul hp (by omega)
  omega
 have e3 : (y : Int) * (P : Int) = ((P * y : Nat) : Int) := by rw [Int.natCast_mul]; exact Int.mul_comm _ _
 rw [e3, IntWalk.wrap64_in ((P * y : Nat) : Int) ⟨by omega, by omega⟩, (bits_nat .i64 62 (by decide) wraps_i64 a (P * y) (by omega) hb).2, Nat.or_comm]
 have := Nat.two_pow_add_eq_or_of_lt (i := 7 * i) (b := a) (by rw [hP]; exact ha) y
 rw [hP] at this
 rw [← this]
 omega
theorem drop_at (xs : List Int) (i : Nat) (h : i < xs.length) : xs.drop i = xs[i] :: xs.drop (i + 1) := List.drop_eq_getElem_cons h
theorem number_any (a : Option Addr) (cap : Nat) (xs : List Int) (w : World) (hr : BRd w a xs) (hx : ∀ x ∈ xs, 0 ≤ x ∧ x ≤ 255) :
  Calls Tryz.prog 144 #[.slice a xs.length cap] w fun e w' => e = .returned (.tuple #[.int .i64 (numG 8 0 0 xs).1, .int .i64 (numG 8 0 0 xs).2.1, .int .i64 (numG 8 0 0 xs).2.2]) ∧ w = w' := by
 have hl := hr.1
 have HR := Hd hr
 have HX := Hd hx
 clear hr hx
 go_enter Tryz.func144, Tryz.ntmps144
 go_wp2
 refine wp_scope_jumps 0 (fun a' w' => w' = w ∧ ∃ (i : Nat) (n : Int) (u7 u8 u9 u10 u11 u12 u13 u14 u15 u16 u17 u18 u19 u20 u21 u22 u23 u24 u25 u26 u27 u28 u29 u30 u31 : Value), a' = { tmps := #[.slice a xs.length cap, undef, .int .i64 0, .int .i64 0, .int .i64 0, .int .i64 n, .int .i64 i, u7, u8, u9, u10, u11, u12, u13, u14, u15, u16, u17, u18, u19, u20, u21, u22, u23, u24, u25, u26, u27, u28, u29, u30, u31, undef, undef, undef, undef, undef, undef], defers := [] } ∧ Hid (numG (8 - i) i n (xs.drop i) = numG 8 0 0 xs) ∧ i ≤ 8 ∧ i ≤ xs.length ∧ Hid (0 ≤ n ∧ n < 128 ^ i)) (fun a' _ => 8 - (intOf (a'.tmps.getD 6 undef)).toNat) rfl ?_ ?_
 ·by_cases hlen : xs.length = 0
  ·have hx0 : xs = [] := List.eq_nil_of_length_eq_zero hlen
   subst hx0
   have hf : numG 8 0 0 [] = (0, 0, 10) := rfl
   have HF := Hd hf
   clear hf
   go_wp2
   go_step3
   go_wp2_with fail
   simp only [Exit.jump]
   go_ret3
   exact ⟨by simp [HF.out], rfl⟩
  obtain ⟨g, off, rfl, hg, hc⟩ : ∃ g off, a = some ⟨g, off, none⟩ ∧ g < w.heap.size ∧ ∀ i, i < xs.length → w.cell? ⟨g, off + i, none⟩ = some (.int .u8 (xs.getD i 0)) := by
   rcases HR.out.2 with h | h
   ·subst h; simp at hlen
   ·exact h
  have hlt : 0 < xs.length := by omega
  have hci := hc 0 hlt
  obtain ⟨hx1, hx2⟩ := HX.out xs[0] (by simp)
  have el : ((0 : Int) == (xs.length : Int)) = false := by simp; omega
  have i1 : (0 : Int) < (xs.length : Int) := by omega
  have HC := Hd hc
  clear hc
  have hv := or_digit 0 (by omega) 0 xs[0] (by omega) (by simp) hx1 hx2
  have hst : numG 8 0 0 (xs.drop 0) = if 128 ≤ xs[0] then numG 7 1 (xs[0] % 128) (xs.drop 1) else if sizeN (xs[0] % 128) = 1 then (xs[0] % 128, 1, 0) else (0, 0, 11) := by
   rw [drop_at xs 0 hlt, numG]
   simp
  rw [List.drop_zero] at hst
  simp at hv
  have HS := Hd hst
  clear hst
  simp at hci
  have h127 := HX.out xs[0] (by simp)
  by_cases hb : 128 ≤ xs[0]
  ·go_wp2
   go_step3
   go_wp2_with fail
   go_step3
   refine ⟨rfl, rfl, 1, xs[0] % 128, _, _, _, _, _, _, _, _, _, _, _, _, _, _, _, _, _, _, _, _, _, _, _, _, _, rfl, ?_, by omega, by omega, ?_⟩
   ·have := HS.out
    rw [if_pos hb] at this
    exact this.symm
   ·exact ⟨by omega, by show xs[0] % 128 < 128 ^ 1; omega⟩
  ·have hs : numG 8 0 0 xs = if sizeN (xs[0] % 128) = 1 then (xs[0] % 128, 1, 0) else (0, 0, 11) := by rw [HS.out, if_neg hb]
   by_cases hsz : sizeN (xs[0] % 128) = 1
   ·rw [if_pos hsz] at hs
    have HF := Hd hs
    have q : ((1 : Int) != sizeN (xs[0] % 128)) = false := by simp; omega
    clear hs
    go_wp2
    go_step3
    go_wp2_with (go_at_call 145; refine (size_any _ _).mono ?_; rintro e w1 ⟨rfl, rfl⟩)
    simp only [Exit.jump]
    go_ret3
    exact ⟨by simp [HF.out], rfl⟩
   ·rw [if_neg hsz] at hs
    have HF := Hd hs
    have q : ((1 : Int) != sizeN (xs[0] % 128)) = true := by simp; omega
    clear hs
    go_wp2
    go_step3
    go_wp2_with (go_at_call 145; refine (size_any _ _).mono ?_; rintro e w1 ⟨rfl, rfl⟩)
    simp only [Exit.jump]
    go_ret3
    exact ⟨by simp [HF.out], rfl⟩
 ·rintro a' w' ⟨rfl, i, n, u7, u8, u9, u10, u11, u12, u13, u14, u15, u16, u17, u18, u19, u20, u21, u22, u23, u24, u25, u26, u27, u28, u29, u30, u31, rfl, hH, hi8, hil, hn⟩
  by_cases h8 : i = 8
  ·subst h8
   have hf : numG 8 0 0 xs = (0, 0, 11) := by rw [← hH.out]; rfl
   have HF := Hd hf
   clear hf
   go_wp2_with fail
   simp only [Exit.jump]
   go_ret3
   exact ⟨by simp [HF.out], rfl⟩
  have e8 : ((i : Int) == 8) = false := by simp; omega
  by_cases hlen : i = xs.length
  ·have hf : numG 8 0 0 xs = (0, 0, 10) := by
    rw [← hH.out, show 8 - i = (7 - i) + 1 from by omega, hlen, List.drop_length]; rfl
   have HF := Hd hf
   clear hf
   have el : ((i : Int) == (xs.length : Int)) = true := by simp; omega
   clear hlen
   go_wp2_with fail
   simp only [Exit.jump]
   go_ret3
   exact ⟨by simp [HF.out], rfl⟩
  obtain ⟨g, off, rfl, hg, hc⟩ : ∃ g off, a = some ⟨g, off, none⟩ ∧ g < w'.heap.size ∧ ∀ i, i < xs.length → w'.cell? ⟨g, off + i, none⟩ = some (.int .u8 (xs.getD i 0)) := by
   rcases HR.out.2 with h | h
   ·subst h; simp at hil hlen; omega
   ·exact h
  have hlt : i < xs.length := by omega
  have hci := hc i hlt
  obtain ⟨hx1, hx2⟩ := HX.out xs[i] (by simp)
  have el : ((i : Int) == (xs.length : Int)) = false := by simp; omega
  have i1 : (i : Int) < (xs.length : Int) := by omega
  have HC := Hd hc
  clear hc
  have hv := or_digit i (by omega) n xs[i] hn.out.1 hn.out.2 hx1 hx2
  obtain ⟨n2, hn2⟩ : ∃ n2, n2 = n + 128 ^ i * (xs[i] % 128) := ⟨_, rfl⟩
  rw [← hn2] at hv
  have hst : numG (8 - i) i n (xs.drop i) = if 128 ≤ xs[i] then numG (7 - i) (i + 1) n2 (xs.drop (i + 1)) else if sizeN n2 = (i : Int) + 1 then (n2, (i : Int) + 1, 0) else (0, 0, 11) := by
   rw [show 8 - i = (7 - i) + 1 from by omega, drop_at xs i hlt, numG, hn2]
  have HN : Hid (0 ≤ n2 ∧ n2 < 128 ^ (i + 1)) := by
   obtain ⟨q0, q1⟩ := hn.out
   have p1 : (0 : Int) < 128 ^ i := Int.pow_pos (by omega)
   have m1 : 0 ≤ (128 : Int) ^ i * (xs[i] % 128) := Int.mul_nonneg (by omega) (by omega)
   have m2 : (128 : Int) ^ i * (xs[i] % 128) ≤ 128 ^ i * 127 := Int.mul_le_mul_of_nonneg_left (by omega) (by omega)
   refine ⟨by omega, ?_⟩
   rw [Int.pow_succ]; omega
  rw [hH.out] at hst
  have HS := Hd hst
  clear hst hn2
  by_cases hb : 128 ≤ xs[i]
  ·go_wp2
   go_step3
   refine ⟨rfl, ⟨rfl, i + 1, n2, _, _, _, _, _, _, _, _, _, _, _, _, _, _, _, _, _, _, _, _, _, _, _, _, _, rfl, ?_, by omega, by omega, HN⟩, ?_⟩
   ·have := HS.out
    rw [if_pos hb] at this
    show numG (8 - (i + 1)) (i + 1) n2 (xs.drop (i + 1)) = numG 8 0 0 xs
    rw [this, show 8 - (i + 1) = 7 - i from by omega]
   ·simp [intOf]; omega
  ·have hs : numG 8 0 0 xs = if sizeN n2 = (i : Int) + 1 then (n2, (i : Int) + 1, 0) else (0, 0, 11) := by rw [HS.out, if_neg hb]
   by_cases hsz : sizeN n2 = (i : Int) + 1
   ·rw [if_pos hsz] at hs
    have HF := Hd hs
    have q : ((i : Int) + 1 != sizeN n2) = false := by simp; omega
    clear hs
    go_wp2_with (go_at_call 145; refine (size_any _ _).mono ?_; rintro e w1 ⟨rfl, rfl⟩)
    simp only [Exit.jump]
    go_ret3
    exact ⟨by simp [HF.out], rfl⟩
   ·rw [if_neg hsz] at hs
    have HF := Hd hs
    have q : ((i : Int) + 1 != sizeN n2) = true := by simp; omega
    clear hs
    go_wp2_with (go_at_call 145; refine (size_any _ _).mono ?_; rintro e w1 ⟨rfl, rfl⟩)
    simp only [Exit.jump]
    go_ret3
    exact ⟨by simp [HF.out], rfl⟩
/-- What block b's first cell leads to is of the block of which it was. -/
def Sb (b : Nat) (w w' : World) : Prop := ∀ ad n cap, w'.cell? ⟨b, 0, none⟩ = some (.slice (some ad) n cap) → ∃ ad0 n0 cap0, w.cell? ⟨b, 0, none⟩ = some (.slice (some ad0) n0 cap0) ∧ ad0.block = ad.block
/-- Only block b is written, and leads to where it led. -/
structure Onl (b : Nat) (w w' : World) : Prop where
 ft : Foot w w' b (.slice none 0 0)
 sb : Sb b w w'
theorem Onl.refl (b : Nat) (w : World) : Onl b w w := ⟨Foot.refl _ _ _, fun ad n cap h => ⟨ad, n, cap, h, rfl⟩⟩
theorem Onl.set {b : Nat} {w w' : World} (h : Onl b w w') (o : Nat) (u : Value) (ho : 0 < o := by decide) : Onl b w (w'.setCell ⟨b, o, none⟩ u) :=
 ⟨Foot.set h.ft o u, fun ad n cap hc => h.sb ad n cap (by
  have ne : (⟨b, o, none⟩ : Addr) ≠ ⟨b, 0, none⟩ := fun q => by cases q; omega
  rwa [World.cell?_setCell_other (h := ne)] at hc)⟩
theorem Onl.set0 {b : Nat} {w w' : World} (h : Onl b w w') {a a' : Option Addr} {n cap n' cap' : Nat} (c0 : w.cell? ⟨b, 0, none⟩ = some (.slice a n cap)) (ha : ∀ ad', a' = some ad' → ∃ ad, a = some ad ∧ ad.block = ad'.block)
  (hu : ∃ u, w'.cell? ⟨b, 0, none⟩ = some u) : Onl b w (w'.setCell ⟨b, 0, none⟩ (.slice a' n' cap')) :=
 ⟨Foot.set h.ft 0 _, fun ad m c hc => by
  obtain ⟨u, hu⟩ := hu
  have e : (w'.setCell ⟨b, 0, none⟩ (.slice a' n' cap')).cell? ⟨b, 0, none⟩ = some (.slice a' n' cap') := by simp [go_sem, hu]
  rw [e] at hc
  simp only [Option.some.injEq, Value.slice.injEq] at hc
  obtain ⟨ad0, q1, q2⟩ := ha ad hc.1
  exact ⟨ad0, n, cap, by rw [c0, q1], q2⟩⟩
theorem Onl.drew {b : Nat} {w w' : World} (h : Onl b w w') : Onl b w w'.drew := ⟨⟨h.ft.os, h.ft.tape, h.ft.output, h.ft.size, h.ft.block⟩, h.sb⟩
theorem rnum_wrong (b : Nat) (xs : List Int) (er : Int) (w : World) (h : RdAt w b xs er) (he : er ≠ 0) :
  Calls Tryz.prog 142 #[.pointer (some ⟨b, 0, none⟩)] w fun e w' => e = .returned (.int .i64 0) ∧ w = w' := by
 obtain ⟨c1, f0, f1, hs, ⟨a, cap, c0, hb, hn⟩, ha⟩ := h
 have HA := Hd ha
 clear ha hn hb
 have q : (er == 0) = false := by simpa using he
 go_enter Tryz.func142, Tryz.ntmps142
 go_wp2
 go_ret
 exact ⟨rfl, rfl⟩
theorem brd_drop {w : World} {g off k : Nat} {xs : List Int} (h : BRd w (some ⟨g, off, none⟩) xs) (hk : k ≤ xs.length) : BRd w (some ⟨g, off + k, none⟩) (xs.drop k) := by
 obtain ⟨h1, h2⟩ := h
 refine ⟨by simp; omega, ?_⟩
 rcases h2 with h2 | ⟨g2, off2, ha, hg, hc⟩
 ·subst h2; simp at hk; subst hk; exact .inl rfl
 ·cases ha
  refine .inr ⟨g, off + k, rfl, hg, fun i hi => ?_⟩
  have hi2 : k + i < xs.length := by simp at hi; omega
  have := hc (k + i) hi2
  rw [show off + k + i = off + (k + i) from by omega, this]
  simp [List.getD]
theorem brd_set {w : World} {b o : Nat} {v : Value} {a : Option Addr} {xs : List Int} (h : BRd w a xs) (hne : ∀ x, a = some x → x.block ≠ b) : BRd (w.setCell ⟨b, o, none⟩ v) a xs := by
 obtain ⟨h1, h2⟩ := h
 refine ⟨h1, ?_⟩
 rcases h2 with h2 | ⟨g, off, rfl, hg, hc⟩
 ·exact .inl h2
 ·refine .inr ⟨g, off, rfl, by simpa using hg, fun i hi => ?_⟩
  have := hne _ rfl
  have ne : (⟨b, o, none⟩ : Addr) ≠ ⟨g, off + i, none⟩ := fun q => this (by cases q; rfl)
  rw [World.cell?_setCell_other (h := ne)]; exact hc i hi
theorem brd_drew {w : World} {a : Option Addr} {xs : List Int} (h : BRd w a xs) : BRd w.drew a xs := h
theorem rnum_some (b g off cap k : Nat) (xs : List Int) (n er : Int) (w : World) (h : RdAt w b xs 0) (hx : ∀ x ∈ xs, 0 ≤ x ∧ x ≤ 255) (hN : numG 8 0 0 xs = (n, (k : Int), er)) (k4 : k ≤ xs.length) (hcap : xs.length ≤ cap) (k2 : ¬ k = cap)
  (c0 : w.cell? ⟨b, 0, none⟩ = some (.slice (some ⟨g, off, none⟩) xs.length cap)) (hb : BRd w (some ⟨g, off, none⟩) xs) (hgb : g ≠ b) (hcm : cap ≤ 9223372036854775807) :
  Calls Tryz.prog 142 #[.pointer (some ⟨b, 0, none⟩)] w fun e w' => e = .returned (.int .i64 n) ∧ RdAt w' b (xs.drop k) er ∧ Onl b w w' := by
 obtain ⟨c1, f0, f1, hs, _, _⟩ := h
 have HB := Hd hb
 have HX := Hd hx
 have r1 := congrArg (fun t => t.1) hN
 have r2 := congrArg (fun t => t.2.1) hN
 have r3 := congrArg (fun t => t.2.2) hN
 simp only at r1 r2 r3
 have R1 := Hd r1
 have R2 := Hd r2
 have R3 := Hd r3
 clear hb hx hN r1 r2 r3
 have k1 : k ≤ cap := by omega
 have k3 : ¬ cap = k := by omega
 go_enter Tryz.func142, Tryz.ntmps142
 go_wp2_with (go_at_call 144; refine (number_any _ _ xs _ HB.out HX.out).mono ?_; rw [R1.out, R2.out, R3.out]; rintro e w1 ⟨rfl, rfl⟩)
 go_region
 all_goals
  go_wp2
  go_ret
  have hd : (xs.drop k).length = xs.length - k := by simp
  refine ⟨rfl, ⟨by simp [go_sem, *], by simp [go_sem, *], by simp [go_sem, *], by simpa using hs, ⟨some ⟨g, off + k, none⟩, cap - k, by rw [hd]; simp [go_sem, *], ?_, (fun q => by cases q), by rw [hd]; omega, by omega, fun x q => by cases q; rfl⟩, ?_⟩, ?_⟩
  ·exact brd_set (brd_set (brd_drew (brd_drop HB.out k4)) (fun x q => by cases q; exact hgb)) (fun x q => by cases q; exact hgb)
  ·intro a2 cap2 hc
   rw [hd] at hc
   simp [go_sem, *] at hc
   rw [← hc.1]; exact hgb
  ·exact (((Onl.refl b _).drew).set 1 _).set0 c0 (by intro ad' q; cases q <;> exact ⟨_, rfl, rfl⟩) (by simp [go_sem, c0])
/-- All is read, and the row has no spare room: the address stays. -/
theorem rnum_full (b g off : Nat) (xs : List Int) (n er : Int) (w : World) (h : RdAt w b xs 0) (hx : ∀ x ∈ xs, 0 ≤ x ∧ x ≤ 255) (hN : numG 8 0 0 xs = (n, (xs.length : Int), er))
  (c0 : w.cell? ⟨b, 0, none⟩ = some (.slice (some ⟨g, off, none⟩) xs.length xs.length)) (hb : BRd w (some ⟨g, off, none⟩) xs) (hgb : g ≠ b) (hcm : xs.length ≤ 9223372036854775807) :
  Calls Tryz.prog 142 #[.pointer (some ⟨b, 0, none⟩)] w fun e w' => e = .returned (.int .i64 n) ∧ RdAt w' b [] er ∧ Onl b w w' := by
 obtain ⟨c1, f0, f1, hs, _, _⟩ := h
 have HB := Hd hb
 have HX := Hd hx
 have r1 := congrArg (fun t => t.1) hN
 have r2 := congrArg (fun t => t.2.1) hN
 have r3 := congrArg (fun t => t.2.2) hN
 simp only at r1 r2 r3
 have R1 := Hd r1
 have R2 := Hd r2
 have R3 := Hd r3
 clear hb hx hN r1 r2 r3
 go_enter Tryz.func142, Tryz.ntmps142
 go_wp2_with (go_at_call 144; refine (number_any _ _ xs _ HB.out HX.out).mono ?_; rw [R1.out, R2.out, R3.out]; rintro e w1 ⟨rfl, rfl⟩)
 go_region
 all_goals
  go_wp2
  go_ret
  refine ⟨rfl, ⟨by simp [go_sem, *], by simp [go_sem, *], by simp [go_sem, *], by simpa using hs, ⟨some ⟨g, off, none⟩, 0, by simp [go_sem, *], ⟨by simp, .inl rfl⟩, (fun q => by cases q), by simp, by omega, fun x q => by cases q; rfl⟩, ?_⟩, ?_⟩
  ·intro a2 cap2 hc
   simp [go_sem, *] at hc
   rw [← hc.1]; exact hgb
  ·exact (((Onl.refl b _).drew).set 1 _).set0 c0 (by intro ad' q; cases q <;> exact ⟨_, rfl, rfl⟩) (by simp [go_sem, c0])
theorem rnum_none (b : Nat) (w : World) (h : RdAt w b [] 0) (c0 : w.cell? ⟨b, 0, none⟩ = some (.slice none 0 0)) :
  Calls Tryz.prog 142 #[.pointer (some ⟨b, 0, none⟩)] w fun e w' => e = .returned (.int .i64 0) ∧ RdAt w' b [] 10 ∧ Onl b w w' := by
 obtain ⟨c1, f0, f1, hs, _, _⟩ := h
 have hb : BRd w none [] := ⟨by simp, .inl rfl⟩
 have HB := Hd hb
 clear hb
 go_enter Tryz.func142, Tryz.ntmps142
 go_wp2_with (go_at_call 144; refine (number_any none 0 [] _ HB.out (by simp)).mono ?_; rw [show (numG 8 0 0 []).1 = 0 from rfl, show (numG 8 0 0 []).2.1 = 0 from rfl, show (numG 8 0 0 []).2.2 = 10 from rfl]; rintro e w1 ⟨rfl, rfl⟩)
 go_region
 all_goals
  go_wp2
  go_ret
  refine ⟨rfl, ⟨by simp [go_sem, *], by simp [go_sem, *], by simp [go_sem, *], by simpa using hs, ⟨none, 0, by simp [go_sem, *], ⟨by simp, .inl rfl⟩, (fun _ => rfl), by simp, by omega, fun x q => by cases q⟩, ?_⟩, ?_⟩
  ·intro a2 cap2 hc
   simp [go_sem, *] at hc
  ·exact (((Onl.refl b _).drew).set 1 _).set0 c0 (by intro ad' q; cases q <;> exact ⟨_, rfl, rfl⟩) (by simp [go_sem, c0])
/-- How far number goes. -/
theorem numG_far : ∀ (f i : Nat) (acc : Int) (l : List Int), (numG f i acc l).2.1 = 0 ∨ ∃ j : Nat, (numG f i acc l).2.1 = (j : Int) ∧ i < j ∧ j ≤ i + l.length
 | 0, _, _, _ => .inl rfl
 | _ + 1, _, _, [] => .inl rfl
 | f + 1, i, acc, x :: r => by
  unfold numG
  split
  ·rcases numG_far f (i + 1) (acc + 128 ^ i * (x % 128)) r with h | ⟨j, h, h1, h2⟩
   ·exact .inl h
   ·exact .inr ⟨j, h, by omega, by simp; omega⟩
  ·split
   ·exact .inr ⟨i + 1, by simp, by omega, by simp⟩
   ·exact .inl rfl
/-- Reader.Num, whatever the reader has left. -/
theorem rnum_any (b : Nat) (xs : List Int) (w : World) (h : RdAt w b xs 0) (hx : ∀ x ∈ xs, 0 ≤ x ∧ x ≤ 255) :
  Calls Tryz.prog 142 #[.pointer (some ⟨b, 0, none⟩)] w fun e w' => e = .returned (.int .i64 (numG 8 0 0 xs).1) ∧ RdAt w' b (xs.drop (numG 8 0 0 xs).2.1.toNat) (numG 8 0 0 xs).2.2 ∧ Onl b w w' := by
 obtain ⟨a, cap, c0, hb, f1, f2, f3, f4⟩ := h.left
 have hk : ∃ k : Nat, (numG 8 0 0 xs).2.1 = (k : Int) ∧ k ≤ xs.length := by
  rcases numG_far 8 0 0 xs with q | ⟨j, q, _, q2⟩
  ·exact ⟨0, by rw [q]; rfl, by omega⟩
  ·exact ⟨j, q, by omega⟩
 obtain ⟨k, hk1, hk2⟩ := hk
 have hN : numG 8 0 0 xs = ((numG 8 0 0 xs).1, (k : Int), (numG 8 0 0 xs).2.2) := by rw [← hk1]
 cases a with
 | none =>
  obtain rfl := f1 rfl
  have hx0 : xs = [] := List.eq_nil_of_length_eq_zero (by omega)
  subst hx0
  exact (rnum_none b w h c0).mono fun e w' q => ⟨q.1, by simpa [numG] using q.2.1, q.2.2⟩
 | some ad =>
  have hap := h.apart ad cap c0
  obtain ⟨g, off, spot⟩ := ad
  have hsp : spot = none := f4 _ rfl
  subst hsp
  rw [hk1]
  by_cases hc : k = cap
  ·have hl : cap = xs.length := by omega
   subst hl
   subst hc
   have := rnum_full b g off xs _ _ w h hx hN c0 hb hap (by omega)
   refine this.mono fun e w' q => ⟨q.1, ?_, q.2.2⟩
   have e : xs.drop ((xs.length : Int)).toNat = [] := by simp
   rw [e]; exact q.2.1
  ·have := rnum_some b g off cap k xs _ _ w h hx hN hk2 f2 hc c0 hb hap f3
   refine this.mono fun e w' q => ⟨q.1, ?_, q.2.2⟩
   rw [Int.toNat_natCast]; exact q.2.1
end Go.Proofs.YtnancdbkmompdaaGreat
