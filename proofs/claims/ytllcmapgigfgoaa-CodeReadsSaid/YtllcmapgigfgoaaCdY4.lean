/-
  Package code: lists, and structs with lists, with a reader.
-/
import Derived.Test.YtllcmapgigfgoaaCdY3
import Derived.Test.YtllcmapgigfgoaaCdS
namespace Go.Proofs.Ytllcmapgigfgoaa
open Go.RowKit
set_option linter.unusedSimpArgs false
set_option linter.unusedVariables false

def R_msg (r0 : Int) (r1 : Int) (r2 : Int) (r3 : Int) (r4 : Int) (r5 : Int) (r6 : Int) (r7 : Int) (r8 : Int) (r9 : Int) (r10 : Int) (r11 : Int) (r12 : Int) (r13 : Int) (r14 : Int) (r15 : Int) (r16 : ByteArray) (r17 : ByteArray) (r18 : Int) (r19 : Int) (r20 : Int) (r21 : Int) (L22 : List Id3) (r23 : Int) (L24 : List Int) (L25 : List Ent) (L26 : List Ses) (B b c : Nat) (s : RSt) (w : World) (e : Ending) (w' : World) : Prop := ∃ (b22 : Option Addr) (d22 f22 : Nat) (b24 : Option Addr) (d24 f24 : Nat) (b25 : Option Addr) (d25 f25 : Nat) (b26 : Option Addr) (d26 f26 : Nat), Hid (e = .returned (.agg #[.int .i64 r0, .int .i64 r1, .int .i64 r2, .int .i64 r3, .int .i64 r4, .int .i64 r5, .int .i64 r6, .int .i64 r7, .int .i64 r8, .int .i64 r9, .int .i64 r10, .int .i64 r11, .int .i64 r12, .int .i64 r13, .int .i64 r14, .int .i64 r15, .string r16, .string r17, .int .i64 r18, .int .i64 r19, .int .i64 r20, .int .i64 r21, .slice b22 d22 f22, .int .i64 r23, .slice b24 d24 f24, .slice b25 d25 f25, .slice b26 d26 f26])) ∧ OwnR KI (plainR idE) w' w.heap.size (.slice b22 d22 f22) L22 ∧ OwnR KN (plainR fun t => [Value.int .i64 t]) w' w.heap.size (.slice b24 d24 f24) L24 ∧ OwnR KE (plainR enE) w' w.heap.size (.slice b25 d25 f25) L25 ∧ OwnR KZ seR w' w.heap.size (.slice b26 d26 f26) L26 ∧ RO w' B b c s ∧ Ft B b c w w'
set_option maxRecDepth 100000 in
set_option maxHeartbeats 40000000 in
theorem r_msg (B b c : Nat) (n0 : Int) (n1 : Int) (n2 : Int) (n3 : Int) (n4 : Int) (n5 : Int) (n6 : Int) (n7 : Int) (n8 : Int) (n9 : Int) (n10 : Int) (n11 : Int) (n12 : Int) (n13 : Int) (n14 : Int) (n15 : Int) (n16 : ByteArray) (n17 : ByteArray) (n18 : Int) (n19 : Int) (n20 : Int) (n21 : Int) (a22 : Option Addr) (m22 c22 : Nat) (n23 : Int) (a24 : Option Addr) (m24 c24 : Nat) (a25 : Option Addr) (m25 c25 : Nat) (a26 : Option Addr) (m26 c26 : Nat) (r0 : Int) (r1 : Int) (r2 : Int) (r3 : Int) (r4 : Int) (r5 : Int) (r6 : Int) (r7 : Int) (r8 : Int) (r9 : Int) (r10 : Int) (r11 : Int) (r12 : Int) (r13 : Int) (r14 : Int) (r15 : Int) (r16 : ByteArray) (r17 : ByteArray) (r18 : Int) (r19 : Int) (r20 : Int) (r21 : Int) (L22 : List Id3) (r23 : Int) (L24 : List Int) (L25 : List Ent) (L26 : List Ses) (s s' : RSt) (w : World) (h : RO w B b c s) (hE : msC.rd s = ((r0, r1, r2, (r3, r4, r5), (r6, r7), (r8, (r9, r10), (r11, r12), (r13, r14, r15, r16, r17, r18, r19, r20), (r21, L22)), ((r23, L24), L25, L26)), s')) :
    Calls Try.prog 27 #[fR c, .agg #[.int .i64 n0, .int .i64 n1, .int .i64 n2, .int .i64 n3, .int .i64 n4, .int .i64 n5, .int .i64 n6, .int .i64 n7, .int .i64 n8, .int .i64 n9, .int .i64 n10, .int .i64 n11, .int .i64 n12, .int .i64 n13, .int .i64 n14, .int .i64 n15, .string n16, .string n17, .int .i64 n18, .int .i64 n19, .int .i64 n20, .int .i64 n21, .slice a22 m22 c22, .int .i64 n23, .slice a24 m24 c24, .slice a25 m25 c25, .slice a26 m26 c26]] w (R_msg r0 r1 r2 r3 r4 r5 r6 r7 r8 r9 r10 r11 r12 r13 r14 r15 r16 r17 r18 r19 r20 r21 L22 r23 L24 L25 L26 B b c s' w) := by
  obtain ⟨q0, s1, he0⟩ : ∃ x y, gNum s = (x, y) := ⟨_, _, rfl⟩
  obtain ⟨q1, s2, he1⟩ : ∃ x y, gNum s1 = (x, y) := ⟨_, _, rfl⟩
  obtain ⟨q2, s3, he2⟩ : ∃ x y, gNum s2 = (x, y) := ⟨_, _, rfl⟩
  obtain ⟨⟨q3, q4, q5⟩, s4, he3⟩ : ∃ x y, idC.rd s3 = (x, y) := ⟨_, _, rfl⟩
  obtain ⟨⟨q6, q7⟩, s5, he4⟩ : ∃ x y, balC.rd s4 = (x, y) := ⟨_, _, rfl⟩
  obtain ⟨⟨q8, ⟨q9, q10⟩, ⟨q11, q12⟩, ⟨q13, q14, q15, q16, q17, q18, q19, q20⟩, ⟨q21, k22⟩⟩, s6, he5⟩ : ∃ x y, inC.rd s5 = (x, y) := ⟨_, _, rfl⟩
  obtain ⟨⟨⟨q23, k24⟩, k25, k26⟩, s7, he6⟩ : ∃ x y, snC.rd s6 = (x, y) := ⟨_, _, rfl⟩
  simp only [msC, pairC_rd, numC_rd, txtC_rd, he0, he1, he2, he3, he4, he5, he6, Prod.mk.injEq] at hE
  obtain ⟨⟨rfl, rfl, rfl, ⟨rfl, rfl, rfl⟩, ⟨rfl, rfl⟩, ⟨rfl, ⟨rfl, rfl⟩, ⟨rfl, rfl⟩, ⟨rfl, rfl, rfl, rfl, rfl, rfl, rfl, rfl⟩, ⟨rfl, rfl⟩⟩, ⟨⟨rfl, rfl⟩, rfl, rfl⟩⟩, rfl⟩ := hE
  have E0 := Lib.hid he0
  have E1 := Lib.hid he1
  have E2 := Lib.hid he2
  have E3 := Lib.hid he3
  have E4 := Lib.hid he4
  have E5 := Lib.hid he5
  have E6 := Lib.hid he6
  clear he0 he1 he2 he3 he4 he5 he6
  have HS0 : Hid (StR w ((w.alloc (.cells #[.int .i64 n0, .int .i64 n1, .int .i64 n2, .int .i64 n3, .int .i64 n4, .int .i64 n5, .int .i64 n6, .int .i64 n7, .int .i64 n8, .int .i64 n9, .int .i64 n10, .int .i64 n11, .int .i64 n12, .int .i64 n13, .int .i64 n14, .int .i64 n15, .string n16, .string n17, .int .i64 n18, .int .i64 n19, .int .i64 n20, .int .i64 n21, .slice a22 m22 c22, .int .i64 n23, .slice a24 m24 c24, .slice a25 m25 c25, .slice a26 m26 c26] 44)).alloc (.cells #[.int .i64 0, .int .i64 0, .int .i64 0, .int .i64 0, .int .i64 0, .int .i64 0, .int .i64 0, .int .i64 0, .int .i64 0, .int .i64 0, .int .i64 0, .int .i64 0, .int .i64 0, .int .i64 0, .int .i64 0, .int .i64 0, .string ⟨#[]⟩, .string ⟨#[]⟩, .int .i64 0, .int .i64 0, .int .i64 0, .int .i64 0, .slice none 0 0, .int .i64 0, .slice none 0 0, .slice none 0 0, .slice none 0 0] 44)) B b c w.heap.size 44 [.int .i64 n0, .int .i64 n1, .int .i64 n2, .int .i64 n3, .int .i64 n4, .int .i64 n5, .int .i64 n6, .int .i64 n7, .int .i64 n8, .int .i64 n9, .int .i64 n10, .int .i64 n11, .int .i64 n12, .int .i64 n13, .int .i64 n14, .int .i64 n15, .string n16, .string n17, .int .i64 n18, .int .i64 n19, .int .i64 n20, .int .i64 n21, .slice a22 m22 c22, .int .i64 n23, .slice a24 m24 c24, .slice a25 m25 c25, .slice a26 m26 c26] [.int .i64 0, .int .i64 0, .int .i64 0, .int .i64 0, .int .i64 0, .int .i64 0, .int .i64 0, .int .i64 0, .int .i64 0, .int .i64 0, .int .i64 0, .int .i64 0, .int .i64 0, .int .i64 0, .int .i64 0, .int .i64 0, .string ⟨#[]⟩, .string ⟨#[]⟩, .int .i64 0, .int .i64 0, .int .i64 0, .int .i64 0, .slice none 0 0, .int .i64 0, .slice none 0 0, .slice none 0 0, .slice none 0 0] s) := Lib.hid (StR.start h 44 (by decide) [.int .i64 n0, .int .i64 n1, .int .i64 n2, .int .i64 n3, .int .i64 n4, .int .i64 n5, .int .i64 n6, .int .i64 n7, .int .i64 n8, .int .i64 n9, .int .i64 n10, .int .i64 n11, .int .i64 n12, .int .i64 n13, .int .i64 n14, .int .i64 n15, .string n16, .string n17, .int .i64 n18, .int .i64 n19, .int .i64 n20, .int .i64 n21, .slice a22 m22 c22, .int .i64 n23, .slice a24 m24 c24, .slice a25 m25 c25, .slice a26 m26 c26] [.int .i64 0, .int .i64 0, .int .i64 0, .int .i64 0, .int .i64 0, .int .i64 0, .int .i64 0, .int .i64 0, .int .i64 0, .int .i64 0, .int .i64 0, .int .i64 0, .int .i64 0, .int .i64 0, .int .i64 0, .int .i64 0, .string ⟨#[]⟩, .string ⟨#[]⟩, .int .i64 0, .int .i64 0, .int .i64 0, .int .i64 0, .slice none 0 0, .int .i64 0, .slice none 0 0, .slice none 0 0, .slice none 0 0])
  have HZ := Lib.hid (show w.heap.size + 2 ≤ ((w.alloc (.cells #[.int .i64 n0, .int .i64 n1, .int .i64 n2, .int .i64 n3, .int .i64 n4, .int .i64 n5, .int .i64 n6, .int .i64 n7, .int .i64 n8, .int .i64 n9, .int .i64 n10, .int .i64 n11, .int .i64 n12, .int .i64 n13, .int .i64 n14, .int .i64 n15, .string n16, .string n17, .int .i64 n18, .int .i64 n19, .int .i64 n20, .int .i64 n21, .slice a22 m22 c22, .int .i64 n23, .slice a24 m24 c24, .slice a25 m25 c25, .slice a26 m26 c26] 44)).alloc (.cells #[.int .i64 0, .int .i64 0, .int .i64 0, .int .i64 0, .int .i64 0, .int .i64 0, .int .i64 0, .int .i64 0, .int .i64 0, .int .i64 0, .int .i64 0, .int .i64 0, .int .i64 0, .int .i64 0, .int .i64 0, .int .i64 0, .string ⟨#[]⟩, .string ⟨#[]⟩, .int .i64 0, .int .i64 0, .int .i64 0, .int .i64 0, .slice none 0 0, .int .i64 0, .slice none 0 0, .slice none 0 0, .slice none 0 0] 44)).heap.size by simp)
  clear h
  have hm1 := mrnum c
  have hm2 := mrtext c
  go_enter Try.func27, Try.ntmps27
  go_wp2_with fail
  refine (r_nkind B b c n0 _ _ HS0.out.ob).mono ?_
  rw [E0.out]
  rintro e w1 ⟨he, h1, h2⟩
  rw [he.out]
  clear he
  have HC := Lib.hid (HS0.out.call h1 h2)
  clear h2 h1 HS0
  go_wp2_with (refine wpList_store_bk rfl _ _ _ rfl w.heap.size 0 rfl _ [.int .i64 q0] rfl rfl (by kernel_rfl) 44 [.int .i64 n0, .int .i64 n1, .int .i64 n2, .int .i64 n3, .int .i64 n4, .int .i64 n5, .int .i64 n6, .int .i64 n7, .int .i64 n8, .int .i64 n9, .int .i64 n10, .int .i64 n11, .int .i64 n12, .int .i64 n13, .int .i64 n14, .int .i64 n15, .string n16, .string n17, .int .i64 n18, .int .i64 n19, .int .i64 n20, .int .i64 n21, .slice a22 m22 c22, .int .i64 n23, .slice a24 m24 c24, .slice a25 m25 c25, .slice a26 m26 c26] [.int .i64 q0, .int .i64 n1, .int .i64 n2, .int .i64 n3, .int .i64 n4, .int .i64 n5, .int .i64 n6, .int .i64 n7, .int .i64 n8, .int .i64 n9, .int .i64 n10, .int .i64 n11, .int .i64 n12, .int .i64 n13, .int .i64 n14, .int .i64 n15, .string n16, .string n17, .int .i64 n18, .int .i64 n19, .int .i64 n20, .int .i64 n21, .slice a22 m22 c22, .int .i64 n23, .slice a24 m24 c24, .slice a25 m25 c25, .slice a26 m26 c26] HC.out.bx (by simp) rfl rfl ?_)
  intro v1 hsx hb
  have HS1 := Lib.hid (HC.out.storeS hsx hb)
  have y1 : _ = some ((.int .i64 n1) : Value) := hb.cell 1
  have zz := hb.lt
  clear hsx hb HC
  go_wp2_with fail
  refine (crnum B b c n1 _ _ HS1.out.ob).mono ?_
  rw [E1.out]
  rintro e w2 ⟨he, h1, h2⟩
  rw [he.out]
  clear he y1 zz
  have HC := Lib.hid (HS1.out.call h1 h2)
  clear h2 h1 HS1
  go_wp2_with (refine wpList_store_bk rfl _ _ _ rfl w.heap.size 1 rfl _ [.int .i64 q1] rfl rfl (by kernel_rfl) 44 [.int .i64 q0, .int .i64 n1, .int .i64 n2, .int .i64 n3, .int .i64 n4, .int .i64 n5, .int .i64 n6, .int .i64 n7, .int .i64 n8, .int .i64 n9, .int .i64 n10, .int .i64 n11, .int .i64 n12, .int .i64 n13, .int .i64 n14, .int .i64 n15, .string n16, .string n17, .int .i64 n18, .int .i64 n19, .int .i64 n20, .int .i64 n21, .slice a22 m22 c22, .int .i64 n23, .slice a24 m24 c24, .slice a25 m25 c25, .slice a26 m26 c26] [.int .i64 q0, .int .i64 q1, .int .i64 n2, .int .i64 n3, .int .i64 n4, .int .i64 n5, .int .i64 n6, .int .i64 n7, .int .i64 n8, .int .i64 n9, .int .i64 n10, .int .i64 n11, .int .i64 n12, .int .i64 n13, .int .i64 n14, .int .i64 n15, .string n16, .string n17, .int .i64 n18, .int .i64 n19, .int .i64 n20, .int .i64 n21, .slice a22 m22 c22, .int .i64 n23, .slice a24 m24 c24, .slice a25 m25 c25, .slice a26 m26 c26] HC.out.bx (by simp) rfl rfl ?_)
  intro v2 hsx hb
  have HS2 := Lib.hid (HC.out.storeS hsx hb)
  have y2 : _ = some ((.int .i64 n2) : Value) := hb.cell 2
  have zz := hb.lt
  clear hsx hb HC
  go_wp2_with fail
  refine (crnum B b c n2 _ _ HS2.out.ob).mono ?_
  rw [E2.out]
  rintro e w3 ⟨he, h1, h2⟩
  rw [he.out]
  clear he y2 zz
  have HC := Lib.hid (HS2.out.call h1 h2)
  clear h2 h1 HS2
  go_wp2_with (refine wpList_store_bk rfl _ _ _ rfl w.heap.size 2 rfl _ [.int .i64 q2] rfl rfl (by kernel_rfl) 44 [.int .i64 q0, .int .i64 q1, .int .i64 n2, .int .i64 n3, .int .i64 n4, .int .i64 n5, .int .i64 n6, .int .i64 n7, .int .i64 n8, .int .i64 n9, .int .i64 n10, .int .i64 n11, .int .i64 n12, .int .i64 n13, .int .i64 n14, .int .i64 n15, .string n16, .string n17, .int .i64 n18, .int .i64 n19, .int .i64 n20, .int .i64 n21, .slice a22 m22 c22, .int .i64 n23, .slice a24 m24 c24, .slice a25 m25 c25, .slice a26 m26 c26] [.int .i64 q0, .int .i64 q1, .int .i64 q2, .int .i64 n3, .int .i64 n4, .int .i64 n5, .int .i64 n6, .int .i64 n7, .int .i64 n8, .int .i64 n9, .int .i64 n10, .int .i64 n11, .int .i64 n12, .int .i64 n13, .int .i64 n14, .int .i64 n15, .string n16, .string n17, .int .i64 n18, .int .i64 n19, .int .i64 n20, .int .i64 n21, .slice a22 m22 c22, .int .i64 n23, .slice a24 m24 c24, .slice a25 m25 c25, .slice a26 m26 c26] HC.out.bx (by simp) rfl rfl ?_)
  intro v3 hsx hb
  have HS3 := Lib.hid (HC.out.storeS hsx hb)
  have y3 : _ = some ((.int .i64 n3) : Value) := hb.cell 3
  have y4 : _ = some ((.int .i64 n4) : Value) := hb.cell 4
  have y5 : _ = some ((.int .i64 n5) : Value) := hb.cell 5
  have zz := hb.lt
  clear hsx hb HC
  go_wp2_with fail
  refine (r_id B b c n3 n4 n5 q3 q4 q5 _ _ _ HS3.out.ob E3.out).mono ?_
  rintro e w4 ⟨he, h1, h2⟩
  rw [he.out]
  clear he y3 y4 y5 zz
  have HC := Lib.hid (HS3.out.call h1 h2)
  clear h2 h1 HS3
  go_wp2_with (refine wpList_store_bk rfl _ _ _ rfl w.heap.size 3 rfl _ [.int .i64 q3, .int .i64 q4, .int .i64 q5] rfl rfl (by kernel_rfl) 44 [.int .i64 q0, .int .i64 q1, .int .i64 q2, .int .i64 n3, .int .i64 n4, .int .i64 n5, .int .i64 n6, .int .i64 n7, .int .i64 n8, .int .i64 n9, .int .i64 n10, .int .i64 n11, .int .i64 n12, .int .i64 n13, .int .i64 n14, .int .i64 n15, .string n16, .string n17, .int .i64 n18, .int .i64 n19, .int .i64 n20, .int .i64 n21, .slice a22 m22 c22, .int .i64 n23, .slice a24 m24 c24, .slice a25 m25 c25, .slice a26 m26 c26] [.int .i64 q0, .int .i64 q1, .int .i64 q2, .int .i64 q3, .int .i64 q4, .int .i64 q5, .int .i64 n6, .int .i64 n7, .int .i64 n8, .int .i64 n9, .int .i64 n10, .int .i64 n11, .int .i64 n12, .int .i64 n13, .int .i64 n14, .int .i64 n15, .string n16, .string n17, .int .i64 n18, .int .i64 n19, .int .i64 n20, .int .i64 n21, .slice a22 m22 c22, .int .i64 n23, .slice a24 m24 c24, .slice a25 m25 c25, .slice a26 m26 c26] HC.out.bx (by simp) rfl rfl ?_)
  intro v4 hsx hb
  have HS4 := Lib.hid (HC.out.storeS hsx hb)
  have y6 : _ = some ((.int .i64 n6) : Value) := hb.cell 6
  have y7 : _ = some ((.int .i64 n7) : Value) := hb.cell 7
  have zz := hb.lt
  clear hsx hb HC
  go_wp2_with fail
  refine (r_bal B b c n6 n7 q6 q7 _ _ _ HS4.out.ob E4.out).mono ?_
  rintro e w5 ⟨he, h1, h2⟩
  rw [he.out]
  clear he y6 y7 zz
  have HC := Lib.hid (HS4.out.call h1 h2)
  clear h2 h1 HS4
  go_wp2_with (refine wpList_store_bk rfl _ _ _ rfl w.heap.size 6 rfl _ [.int .i64 q6, .int .i64 q7] rfl rfl (by kernel_rfl) 44 [.int .i64 q0, .int .i64 q1, .int .i64 q2, .int .i64 q3, .int .i64 q4, .int .i64 q5, .int .i64 n6, .int .i64 n7, .int .i64 n8, .int .i64 n9, .int .i64 n10, .int .i64 n11, .int .i64 n12, .int .i64 n13, .int .i64 n14, .int .i64 n15, .string n16, .string n17, .int .i64 n18, .int .i64 n19, .int .i64 n20, .int .i64 n21, .slice a22 m22 c22, .int .i64 n23, .slice a24 m24 c24, .slice a25 m25 c25, .slice a26 m26 c26] [.int .i64 q0, .int .i64 q1, .int .i64 q2, .int .i64 q3, .int .i64 q4, .int .i64 q5, .int .i64 q6, .int .i64 q7, .int .i64 n8, .int .i64 n9, .int .i64 n10, .int .i64 n11, .int .i64 n12, .int .i64 n13, .int .i64 n14, .int .i64 n15, .string n16, .string n17, .int .i64 n18, .int .i64 n19, .int .i64 n20, .int .i64 n21, .slice a22 m22 c22, .int .i64 n23, .slice a24 m24 c24, .slice a25 m25 c25, .slice a26 m26 c26] HC.out.bx (by simp) rfl rfl ?_)
  intro v5 hsx hb
  have HS5 := Lib.hid (HC.out.storeS hsx hb)
  have y8 : _ = some ((.int .i64 n8) : Value) := hb.cell 8
  have y9 : _ = some ((.int .i64 n9) : Value) := hb.cell 9
  have y10 : _ = some ((.int .i64 n10) : Value) := hb.cell 10
  have y11 : _ = some ((.int .i64 n11) : Value) := hb.cell 11
  have y12 : _ = some ((.int .i64 n12) : Value) := hb.cell 12
  have y13 : _ = some ((.int .i64 n13) : Value) := hb.cell 13
  have y14 : _ = some ((.int .i64 n14) : Value) := hb.cell 14
  have y15 : _ = some ((.int .i64 n15) : Value) := hb.cell 15
  have y16 : _ = some ((.string n16) : Value) := hb.cell 16
  have y17 : _ = some ((.string n17) : Value) := hb.cell 17
  have y18 : _ = some ((.int .i64 n18) : Value) := hb.cell 18
  have y19 : _ = some ((.int .i64 n19) : Value) := hb.cell 19
  have y20 : _ = some ((.int .i64 n20) : Value) := hb.cell 20
  have y21 : _ = some ((.int .i64 n21) : Value) := hb.cell 21
  have y22 : _ = some ((.slice a22 m22 c22) : Value) := hb.cell 22
  have zz := hb.lt
  clear hsx hb HC
  go_wp2_with fail
  refine (r_ins B b c n8 n9 n10 n11 n12 n13 n14 n15 n16 n17 n18 n19 n20 n21 a22 m22 c22 q8 q9 q10 q11 q12 q13 q14 q15 q16 q17 q18 q19 q20 q21 k22 _ _ _ HS5.out.ob E5.out).mono ?_
  rintro e w6 ⟨b22, d22, f22, he, hw22, h1, h2⟩
  rw [he.out]
  clear he y8 y9 y10 y11 y12 y13 y14 y15 y16 y17 y18 y19 y20 y21 y22 zz
  have HC := Lib.hid (HS5.out.call h1 h2)
  have HA22 := Lib.hid (hw22.base (M := w.heap.size + 2) (by have := HS5.out.rs.lt; omega))
  clear h2 h1 HS5 hw22
  go_wp2_with (refine wpList_store_bk rfl _ _ _ rfl w.heap.size 8 rfl _ [.int .i64 q8, .int .i64 q9, .int .i64 q10, .int .i64 q11, .int .i64 q12, .int .i64 q13, .int .i64 q14, .int .i64 q15, .string q16, .string q17, .int .i64 q18, .int .i64 q19, .int .i64 q20, .int .i64 q21, .slice b22 d22 f22] rfl rfl (by kernel_rfl) 44 [.int .i64 q0, .int .i64 q1, .int .i64 q2, .int .i64 q3, .int .i64 q4, .int .i64 q5, .int .i64 q6, .int .i64 q7, .int .i64 n8, .int .i64 n9, .int .i64 n10, .int .i64 n11, .int .i64 n12, .int .i64 n13, .int .i64 n14, .int .i64 n15, .string n16, .string n17, .int .i64 n18, .int .i64 n19, .int .i64 n20, .int .i64 n21, .slice a22 m22 c22, .int .i64 n23, .slice a24 m24 c24, .slice a25 m25 c25, .slice a26 m26 c26] [.int .i64 q0, .int .i64 q1, .int .i64 q2, .int .i64 q3, .int .i64 q4, .int .i64 q5, .int .i64 q6, .int .i64 q7, .int .i64 q8, .int .i64 q9, .int .i64 q10, .int .i64 q11, .int .i64 q12, .int .i64 q13, .int .i64 q14, .int .i64 q15, .string q16, .string q17, .int .i64 q18, .int .i64 q19, .int .i64 q20, .int .i64 q21, .slice b22 d22 f22, .int .i64 n23, .slice a24 m24 c24, .slice a25 m25 c25, .slice a26 m26 c26] HC.out.bx (by simp) rfl rfl ?_)
  intro v6 hsx hb
  have HS6 := Lib.hid (HC.out.storeS hsx hb)
  have HQ22_6 := Lib.hid (HA22.out.sx hsx (by omega))
  have y23 : _ = some ((.int .i64 n23) : Value) := hb.cell 23
  have y24 : _ = some ((.slice a24 m24 c24) : Value) := hb.cell 24
  have y25 : _ = some ((.slice a25 m25 c25) : Value) := hb.cell 25
  have y26 : _ = some ((.slice a26 m26 c26) : Value) := hb.cell 26
  have zz := hb.lt
  clear hsx hb HC HA22
  go_wp2_with fail
  refine (r_sn B b c n23 a24 m24 c24 a25 m25 c25 a26 m26 c26 q23 k24 k25 k26 _ _ _ HS6.out.ob E6.out).mono ?_
  rintro e w7 ⟨b24, d24, f24, b25, d25, f25, b26, d26, f26, he, hw24, hw25, hw26, h1, h2⟩
  rw [he.out]
  clear he y23 y24 y25 y26 zz
  have HC := Lib.hid (HS6.out.call h1 h2)
  have HA22 := Lib.hid (HQ22_6.out.ft h2 (by have := HC.out.hb; omega) (by have := HC.out.hc; omega) (by decide))
  have HA24 := Lib.hid (hw24.base (M := w.heap.size + 2) (by have := HS6.out.rs.lt; omega))
  have HA25 := Lib.hid (hw25.base (M := w.heap.size + 2) (by have := HS6.out.rs.lt; omega))
  have HA26 := Lib.hid (hw26.base (M := w.heap.size + 2) (by have := HS6.out.rs.lt; omega))
  clear h2 h1 HS6 HQ22_6 hw24 hw25 hw26
  go_wp2_with (refine wpList_store_bk rfl _ _ _ rfl w.heap.size 23 rfl _ [.int .i64 q23, .slice b24 d24 f24, .slice b25 d25 f25, .slice b26 d26 f26] rfl rfl (by kernel_rfl) 44 [.int .i64 q0, .int .i64 q1, .int .i64 q2, .int .i64 q3, .int .i64 q4, .int .i64 q5, .int .i64 q6, .int .i64 q7, .int .i64 q8, .int .i64 q9, .int .i64 q10, .int .i64 q11, .int .i64 q12, .int .i64 q13, .int .i64 q14, .int .i64 q15, .string q16, .string q17, .int .i64 q18, .int .i64 q19, .int .i64 q20, .int .i64 q21, .slice b22 d22 f22, .int .i64 n23, .slice a24 m24 c24, .slice a25 m25 c25, .slice a26 m26 c26] [.int .i64 q0, .int .i64 q1, .int .i64 q2, .int .i64 q3, .int .i64 q4, .int .i64 q5, .int .i64 q6, .int .i64 q7, .int .i64 q8, .int .i64 q9, .int .i64 q10, .int .i64 q11, .int .i64 q12, .int .i64 q13, .int .i64 q14, .int .i64 q15, .string q16, .string q17, .int .i64 q18, .int .i64 q19, .int .i64 q20, .int .i64 q21, .slice b22 d22 f22, .int .i64 q23, .slice b24 d24 f24, .slice b25 d25 f25, .slice b26 d26 f26] HC.out.bx (by simp) rfl rfl ?_)
  intro v7 hsx hb
  have HS7 := Lib.hid (HC.out.storeS hsx hb)
  have HQ22_7 := Lib.hid (HA22.out.sx hsx (by omega))
  have HQ24_7 := Lib.hid (HA24.out.sx hsx (by omega))
  have HQ25_7 := Lib.hid (HA25.out.sx hsx (by omega))
  have HQ26_7 := Lib.hid (HA26.out.sx hsx (by omega))
  have y0 : _ = some ((.int .i64 q0) : Value) := hb.cell 0
  have zz := hb.lt
  clear hsx hb HC HA22 HA24 HA25 HA26
  have hr := HS7.out.rs
  have hbx := HS7.out.bx
  go_wp2_with (first | (refine wpList_load_row rfl _ _ rfl w.heap.size rfl 44 _ (0, 0) _ hbx Try.underlying44 rfl (by kernel_rfl) ?_) | (refine wpList_store_bk rfl _ _ _ rfl (w.heap.size + 1) 0 rfl _ [.int .i64 q0, .int .i64 q1, .int .i64 q2, .int .i64 q3, .int .i64 q4, .int .i64 q5, .int .i64 q6, .int .i64 q7, .int .i64 q8, .int .i64 q9, .int .i64 q10, .int .i64 q11, .int .i64 q12, .int .i64 q13, .int .i64 q14, .int .i64 q15, .string q16, .string q17, .int .i64 q18, .int .i64 q19, .int .i64 q20, .int .i64 q21, .slice b22 d22 f22, .int .i64 q23, .slice b24 d24 f24, .slice b25 d25 f25, .slice b26 d26 f26] rfl rfl (by kernel_rfl) 44 [.int .i64 0, .int .i64 0, .int .i64 0, .int .i64 0, .int .i64 0, .int .i64 0, .int .i64 0, .int .i64 0, .int .i64 0, .int .i64 0, .int .i64 0, .int .i64 0, .int .i64 0, .int .i64 0, .int .i64 0, .int .i64 0, .string ⟨#[]⟩, .string ⟨#[]⟩, .int .i64 0, .int .i64 0, .int .i64 0, .int .i64 0, .slice none 0 0, .int .i64 0, .slice none 0 0, .slice none 0 0, .slice none 0 0] [.int .i64 q0, .int .i64 q1, .int .i64 q2, .int .i64 q3, .int .i64 q4, .int .i64 q5, .int .i64 q6, .int .i64 q7, .int .i64 q8, .int .i64 q9, .int .i64 q10, .int .i64 q11, .int .i64 q12, .int .i64 q13, .int .i64 q14, .int .i64 q15, .string q16, .string q17, .int .i64 q18, .int .i64 q19, .int .i64 q20, .int .i64 q21, .slice b22 d22 f22, .int .i64 q23, .slice b24 d24 f24, .slice b25 d25 f25, .slice b26 d26 f26] hr (by simp) rfl rfl ?_))
  intro wf hsx hb
  have HO2 := Lib.hid (HS7.out.resultS hsx)
  have HF2 := Lib.hid (HS7.out.toStB.resultS hsx)
  have HQ22 := Lib.hid ((HQ22_7.out.sx hsx (by omega)).base (M := w.heap.size) (by omega))
  have HQ24 := Lib.hid ((HQ24_7.out.sx hsx (by omega)).base (M := w.heap.size) (by omega))
  have HQ25 := Lib.hid ((HQ25_7.out.sx hsx (by omega)).base (M := w.heap.size) (by omega))
  have HQ26 := Lib.hid ((HQ26_7.out.sx hsx (by omega)).base (M := w.heap.size) (by omega))
  clear y0 zz hr hsx hbx
  have hb' : wf.heap[w.heap.size + 1]? = some (.cells _ _ (0, 0)) := hb
  have HB := Lib.hid hb'
  clear hb hb'
  go_wp2_with fail
  exact bodyPost_ret (results_cell_row rfl _ _ (w.heap.size + 1) _ _ _ _ rfl HB.out Try.underlying44 rfl (by kernel_rfl)) rfl ⟨b22, d22, f22, b24, d24, f24, b25, d25, f25, b26, d26, f26, rfl, HQ22.out, HQ24.out, HQ25.out, HQ26.out, HO2.out, HF2.out⟩
end Go.Proofs.Ytllcmapgigfgoaa
