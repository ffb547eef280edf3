/-
  Texts put together: Mf, Wg.
-/
import Derived.Test.YtnancdbkmompdaaGreatRY
import Derived.Test.YtnancdbkmompdaaGreatRows
import Derived.Test.YtnancdbkmompdaaGreatRQA
import Derived.Laws.ResultCell
import Derived.Deep.RegionHeld3
import Derived.Test.YtnancdbkmompdaaGreatWaR
import Derived.Test.YtnancdbkmompdaaGreatCqR
import Derived.Test.YtnancdbkmompdaaGreatRQH
import Derived.IntWalk
import Derived.Deep.QuietTactic
import Derived.Test.YtnancdbkmompdaaGreatWrR
import Derived.Deep.Cut
import Derived.Deep.CutRange
namespace Go.Proofs.YtnancdbkmompdaaGreat
set_option linter.unusedSimpArgs false
set_option linter.unusedVariables false
set_option maxRecDepth 100000
set_option maxHeartbeats 40000000
end Go.Proofs.YtnancdbkmompdaaGreat
namespace Go.Proofs.YtnancdbkmompdaaGreat
open Go.RowKit
set_option linter.unusedSimpArgs false
set_option linter.unusedVariables false
set_option maxRecDepth 100000
set_option maxHeartbeats 40000000
/-- A number as four bytes, the lowest first. -/
def f4 (n : Nat) : List Int := [(n : Int) % 256, (n : Int) / 256 % 256, (n : Int) / 65536 % 256, (n : Int) / 16777216]
section
variable {ops : Array Oper} {rest : List Oper} {o : Oper} {a : Act} {w : World} {Q : Exit → Act → World → Prop}
end
/-- The first eight bytes. -/
def C8 (g off : Nat) (n0 n1 n2 n3 n4 n5 n6 n7 : Int) (w' : World) : Prop :=
 w'.cell? ⟨g, off, none⟩ = some (.int .u8 n0) ∧ w'.cell? ⟨g, off + 1, none⟩ = some (.int .u8 n1) ∧ w'.cell? ⟨g, off + 2, none⟩ = some (.int .u8 n2) ∧ w'.cell? ⟨g, off + 3, none⟩ = some (.int .u8 n3) ∧
 w'.cell? ⟨g, off + 4, none⟩ = some (.int .u8 n4) ∧ w'.cell? ⟨g, off + 4 + 1, none⟩ = some (.int .u8 n5) ∧ w'.cell? ⟨g, off + 4 + 2, none⟩ = some (.int .u8 n6) ∧ w'.cell? ⟨g, off + 4 + 3, none⟩ = some (.int .u8 n7)
def K8 (w : World) (g off : Nat) (n0 n1 n2 n3 n4 n5 n6 n7 : Int) (w' : World) : Prop := C8 g off n0 n1 n2 n3 n4 n5 n6 n7 w ∧ g < w.heap.size ∧ Below w.heap.size w w'
theorem ro_wrong {w : World} {B b c : Nat} {s : RSt} (h : RO w B b c s) (er : Int) (he : er ≠ 0) : RO (w.setCell ⟨c, 1, none⟩ (.int .i64 er)) B b c (s.1, er) ∧ Ft B b c w (w.setCell ⟨c, 1, none⟩ (.int .i64 er)) := by
 obtain ⟨e1, e2, q, k, r1, r2⟩ := h.rd
 refine ⟨⟨⟨e1, er, q.keep (by simp) (Below.heap_setCell _ _ _ _ h.ne) (fun j hj => Below.heap_setCell _ _ _ _ (fun e => bk_u8 k (by decide) (by have e' : j = c := e; rw [← e']; exact hj))), k.set 1 _, (fun z => absurd z he), fun _ => rfl⟩, h.byts, h.len, h.ne, h.low, h.low2⟩, (Ft.refl _ _ _ _).setC h.low 1 _⟩
def R_rec1 (rs : List Value) (r19 : Int) (L20 : List Int) (L21 : List Ent) (L22 : List Ses) (B b c : Nat) (s : RSt) (w : World) (e : Ending) (w' : World) : Prop := ∃ (b20 : Option Addr) (d20 f20 : Nat) (b21 : Option Addr) (d21 f21 : Nat) (b22 : Option Addr) (d22 f22 : Nat), Hid (e = .returned (.agg (rs ++ [Value.int .i64 r19, Value.slice b20 d20 f20, Value.slice b21 d21 f21, Value.slice b22 d22 f22]).toArray)) ∧ OwnR KN (plainR fun t => [Value.int .i64 t]) w' w.heap.size (.slice b20 d20 f20) L20 ∧ OwnR KE (plainR enE) w' w.heap.size (.slice b21 d21 f21) L21 ∧ OwnR KZ seR w' w.heap.size (.slice b22 d22 f22) L22 ∧ RO w' B b c s ∧ Ft B b c w w'
theorem r_rec1 (B b c : Nat) (n1 : Int) (n2 : Int) (n3 : Int) (n4 : Int) (n5 : Int) (n6 : Int) (n7 : Int) (n8 : Int) (n9 : Int) (n10 : Int) (n11 : Int) (n12 : ByteArray) (n13 : ByteArray) (n14 : Int) (n15 : Int) (n16 : Int) (n17 : Int) (a18 : Option Addr) (m18 c18 : Nat) (n19 : Int) (a20 : Option Addr) (m20 c20 : Nat) (a21 : Option Addr) (m21 c21 : Nat) (a22 : Option Addr) (m22 c22 : Nat) (r19 : Int) (L20 : List Int) (L21 : List Ent) (L22 : List Ses) (s s1 s' : RSt) (w : World) (h : RO w B b c s) (hE0 : gNum s = (1, s1)) (hE1 : snC.rd s1 = (((r19, L20), L21, L22), s')) :
  Calls Tryz.prog 35 #[fR c, .agg #[.bool false, .int .i64 n1, .int .i64 n2, .int .i64 n3, .int .i64 n4, .int .i64 n5, .int .i64 n6, .int .i64 n7, .int .i64 n8, .int .i64 n9, .int .i64 n10, .int .i64 n11, .string n12, .string n13, .int .i64 n14, .int .i64 n15, .int .i64 n16, .int .i64 n17, .slice a18 m18 c18, .int .i64 n19, .slice a20 m20 c20, .slice a21 m21 c21, .slice a22 m22 c22]] w (R_rec1 [.bool true, .int .i64 n1, .int .i64 n2, .int .i64 n3, .int .i64 n4, .int .i64 n5, .int .i64 n6, .int .i64 n7, .int .i64 n8, .int .i64 n9, .int .i64 n10, .int .i64 n11, .string n12, .string n13, .int .i64 n14, .int .i64 n15, .int .i64 n16, .int .i64 n17, .slice a18 m18 c18] r19 L20 L21 L22 B b c s' w) := by
 have E0 := Hd hE0
 have E1 := Hd hE1
 clear hE0 hE1
 have HS0 : Hid (StR w ((w.alloc (.cells #[.bool false, .int .i64 n1, .int .i64 n2, .int .i64 n3, .int .i64 n4, .int .i64 n5, .int .i64 n6, .int .i64 n7, .int .i64 n8, .int .i64 n9, .int .i64 n10, .int .i64 n11, .string n12, .string n13, .int .i64 n14, .int .i64 n15, .int .i64 n16, .int .i64 n17, .slice a18 m18 c18, .int .i64 n19, .slice a20 m20 c20, .slice a21 m21 c21, .slice a22 m22 c22] 61)).alloc (.cells #[.bool false, .int .i64 0, .int .i64 0, .int .i64 0, .int .i64 0, .int .i64 0, .int .i64 0, .int .i64 0, .int .i64 0, .int .i64 0, .int .i64 0, .int .i64 0, .string ⟨#[]⟩, .string ⟨#[]⟩, .int .i64 0, .int .i64 0, .int .i64 0, .int .i64 0, .slice none 0 0, .int .i64 0, .slice none 0 0, .slice none 0 0, .slice none 0 0] 61)) B b c w.heap.size 61 [.bool false, .int .i64 n1, .int .i64 n2, .int .i64 n3, .int .i64 n4, .int .i64 n5, .int .i64 n6, .int .i64 n7, .int .i64 n8, .int .i64 n9, .int .i64 n10, .int .i64 n11, .string n12, .string n13, .int .i64 n14, .int .i64 n15, .int .i64 n16, .int .i64 n17, .slice a18 m18 c18, .int .i64 n19, .slice a20 m20 c20, .slice a21 m21 c21, .slice a22 m22 c22] [.bool false, .int .i64 0, .int .i64 0, .int .i64 0, .int .i64 0, .int .i64 0, .int .i64 0, .int .i64 0, .int .i64 0, .int .i64 0, .int .i64 0, .int .i64 0, .string ⟨#[]⟩, .string ⟨#[]⟩, .int .i64 0, .int .i64 0, .int .i64 0, .int .i64 0, .slice none 0 0, .int .i64 0, .slice none 0 0, .slice none 0 0, .slice none 0 0] s) := Hd (StR.start h 61 (by decide) [.bool false, .int .i64 n1, .int .i64 n2, .int .i64 n3, .int .i64 n4, .int .i64 n5, .int .i64 n6, .int .i64 n7, .int .i64 n8, .int .i64 n9, .int .i64 n10, .int .i64 n11, .string n12, .string n13, .int .i64 n14, .int .i64 n15, .int .i64 n16, .int .i64 n17, .slice a18 m18 c18, .int .i64 n19, .slice a20 m20 c20, .slice a21 m21 c21, .slice a22 m22 c22] [.bool false, .int .i64 0, .int .i64 0, .int .i64 0, .int .i64 0, .int .i64 0, .int .i64 0, .int .i64 0, .int .i64 0, .int .i64 0, .int .i64 0, .int .i64 0, .string ⟨#[]⟩, .string ⟨#[]⟩, .int .i64 0, .int .i64 0, .int .i64 0, .int .i64 0, .slice none 0 0, .int .i64 0, .slice none 0 0, .slice none 0 0, .slice none 0 0])
 clear h
 have hm1 := mrnum c
 go_enter Tryz.func35, Tryz.ntmps35
 have y00 := HS0.out.bx.cell 0
 simp only [List.getElem?_cons_zero] at y00
 go_wp2_with fail
 refine (crnum B b c 0 _ _ HS0.out.ob).mono ?_
 rw [E0.out]
 rintro e w1 ⟨he, h1, h2⟩
 rw [he.out]
 clear he y00
 have HS1 := Hd (HS0.out.call h1 h2)
 have HS2 := Hd (show StR w (w1.setCell ⟨w.heap.size, 0, none⟩ (.bool true)) B b c w.heap.size 61 [.bool true, .int .i64 n1, .int .i64 n2, .int .i64 n3, .int .i64 n4, .int .i64 n5, .int .i64 n6, .int .i64 n7, .int .i64 n8, .int .i64 n9, .int .i64 n10, .int .i64 n11, .string n12, .string n13, .int .i64 n14, .int .i64 n15, .int .i64 n16, .int .i64 n17, .slice a18 m18 c18, .int .i64 n19, .slice a20 m20 c20, .slice a21 m21 c21, .slice a22 m22 c22] [.bool false, .int .i64 0, .int .i64 0, .int .i64 0, .int .i64 0, .int .i64 0, .int .i64 0, .int .i64 0, .int .i64 0, .int .i64 0, .int .i64 0, .int .i64 0, .string ⟨#[]⟩, .string ⟨#[]⟩, .int .i64 0, .int .i64 0, .int .i64 0, .int .i64 0, .slice none 0 0, .int .i64 0, .slice none 0 0, .slice none 0 0, .slice none 0 0] s1 from HS1.out.store 0 [.bool true])
 have y0 := HS1.out.bx.cell 0
 have z0 := HS1.out.bx.fz 0
 simp only [List.getElem?_cons_zero] at y0
 have hb := HS2.out.bx
 have y19 : _ = some ((.int .i64 n19) : Value) := hb.cell 19
 have y20 : _ = some ((.slice a20 m20 c20) : Value) := hb.cell 20
 have y21 : _ = some ((.slice a21 m21 c21) : Value) := hb.cell 21
 have y22 : _ = some ((.slice a22 m22 c22) : Value) := hb.cell 22
 have zz := hb.lt
 clear hb h1 h2 HS0 HS1
 go_wp2_with fail
 generalize w1.setCell ⟨w.heap.size, 0, none⟩ (.bool true) = wq at *
 refine (r_sn B b c n19 a20 m20 c20 a21 m21 c21 a22 m22 c22 r19 L20 L21 L22 _ _ _ HS2.out.ob E1.out).mono ?_
 rintro e w3 ⟨b20, d20, f20, b21, d21, f21, b22, d22, f22, he, hw20, hw21, hw22, h1, h2⟩
 rw [he.out]
 clear he zz y19 y20 y21 y22
 have HC := Hd (HS2.out.call h1 h2)
 have HA20 := Hd (hw20.base (M := w.heap.size + 2) (by have := HS2.out.rs.lt; omega))
 have HA21 := Hd (hw21.base (M := w.heap.size + 2) (by have := HS2.out.rs.lt; omega))
 have HA22 := Hd (hw22.base (M := w.heap.size + 2) (by have := HS2.out.rs.lt; omega))
 clear h1 h2 HS2 hw20 hw21 hw22
 go_wp2_with (refine wpList_store_bk rfl _ _ _ rfl w.heap.size 19 rfl _ [.int .i64 r19, .slice b20 d20 f20, .slice b21 d21 f21, .slice b22 d22 f22] rfl rfl (by kernel_rfl) 61 [.bool true, .int .i64 n1, .int .i64 n2, .int .i64 n3, .int .i64 n4, .int .i64 n5, .int .i64 n6, .int .i64 n7, .int .i64 n8, .int .i64 n9, .int .i64 n10, .int .i64 n11, .string n12, .string n13, .int .i64 n14, .int .i64 n15, .int .i64 n16, .int .i64 n17, .slice a18 m18 c18, .int .i64 n19, .slice a20 m20 c20, .slice a21 m21 c21, .slice a22 m22 c22] [.bool true, .int .i64 n1, .int .i64 n2, .int .i64 n3, .int .i64 n4, .int .i64 n5, .int .i64 n6, .int .i64 n7, .int .i64 n8, .int .i64 n9, .int .i64 n10, .int .i64 n11, .string n12, .string n13, .int .i64 n14, .int .i64 n15, .int .i64 n16, .int .i64 n17, .slice a18 m18 c18, .int .i64 r19, .slice b20 d20 f20, .slice b21 d21 f21, .slice b22 d22 f22] HC.out.bx (by simp) rfl rfl ?_)
 intro v3 hsx hb
 have HS3 := Hd (HC.out.storeS hsx hb)
 have HQ20 := Hd (HA20.out.sx hsx (by omega))
 have HQ21 := Hd (HA21.out.sx hsx (by omega))
 have HQ22 := Hd (HA22.out.sx hsx (by omega))
 clear hsx HC HA20 HA21 HA22
 have HHb := Hd hb
 have HHr := Hd HS3.out.rs
 clear hb
 go_wp2_with (first | (refine wpList_load_row rfl _ _ rfl w.heap.size rfl 61 _ (0, 0) _ HHb.out Tryz.underlying61 rfl (by kernel_rfl) ?_) | (refine wpList_store_bk rfl _ _ _ rfl (w.heap.size + 1) 0 rfl _ [.bool true, .int .i64 n1, .int .i64 n2, .int .i64 n3, .int .i64 n4, .int .i64 n5, .int .i64 n6, .int .i64 n7, .int .i64 n8, .int .i64 n9, .int .i64 n10, .int .i64 n11, .string n12, .string n13, .int .i64 n14, .int .i64 n15, .int .i64 n16, .int .i64 n17, .slice a18 m18 c18, .int .i64 r19, .slice b20 d20 f20, .slice b21 d21 f21, .slice b22 d22 f22] rfl rfl (by kernel_rfl) 61 [.bool false, .int .i64 0, .int .i64 0, .int .i64 0, .int .i64 0, .int .i64 0, .int .i64 0, .int .i64 0, .int .i64 0, .int .i64 0, .int .i64 0, .int .i64 0, .string ⟨#[]⟩, .string ⟨#[]⟩, .int .i64 0, .int .i64 0, .int .i64 0, .int .i64 0, .slice none 0 0, .int .i64 0, .slice none 0 0, .slice none 0 0, .slice none 0 0] [.bool true, .int .i64 n1, .int .i64 n2, .int .i64 n3, .int .i64 n4, .int .i64 n5, .int .i64 n6, .int .i64 n7, .int .i64 n8, .int .i64 n9, .int .i64 n10, .int .i64 n11, .string n12, .string n13, .int .i64 n14, .int .i64 n15, .int .i64 n16, .int .i64 n17, .slice a18 m18 c18, .int .i64 r19, .slice b20 d20 f20, .slice b21 d21 f21, .slice b22 d22 f22] HHr.out (by simp) rfl rfl ?_))
 intro wf hsx hb
 have HO2 := Hd (HS3.out.resultS hsx)
 have HF2 := Hd (HS3.out.toStB.resultS hsx)
 have HP20 := Hd ((HQ20.out.sx hsx (by omega)).base (M := w.heap.size) (by omega))
 have HP21 := Hd ((HQ21.out.sx hsx (by omega)).base (M := w.heap.size) (by omega))
 have HP22 := Hd ((HQ22.out.sx hsx (by omega)).base (M := w.heap.size) (by omega))
 have hb' : wf.heap[w.heap.size + 1]? = some (.cells _ _ (0, 0)) := hb
 have HB := Hd hb'
 clear hb hb' hsx HHb HHr
 go_wp2_with fail
 exact bodyPost_ret (results_cell_row rfl _ _ (w.heap.size + 1) _ _ _ _ rfl HB.out Tryz.underlying61 rfl (by kernel_rfl)) rfl ⟨b20, d20, f20, b21, d21, f21, b22, d22, f22, rfl, HP20.out, HP21.out, HP22.out, HO2.out, HF2.out⟩
def R_rec2 (cs : Array Value) (B b c : Nat) (s : RSt) (w : World) (e : Ending) (w' : World) : Prop := Hid (e = .returned (.agg cs)) ∧ RO w' B b c s ∧ Ft B b c w w'
theorem r_rec2 (B b c : Nat) (n1 : Int) (n2 : Int) (n3 : Int) (n4 : Int) (n5 : Int) (n6 : Int) (n7 : Int) (n8 : Int) (n9 : Int) (n10 : Int) (n11 : Int) (n12 : ByteArray) (n13 : ByteArray) (n14 : Int) (n15 : Int) (n16 : Int) (n17 : Int) (a18 : Option Addr) (m18 c18 : Nat) (n19 : Int) (a20 : Option Addr) (m20 c20 : Nat) (a21 : Option Addr) (m21 c21 : Nat) (a22 : Option Addr) (m22 c22 : Nat) (k : Int) (s s1 : RSt) (w : World) (h : RO w B b c s) (hE0 : gNum s = (k, s1)) (hk0 : k ≠ 0) (hk1 : k ≠ 1) :
  Calls Tryz.prog 35 #[fR c, .agg #[.bool false, .int .i64 n1, .int .i64 n2, .int .i64 n3, .int .i64 n4, .int .i64 n5, .int .i64 n6, .int .i64 n7, .int .i64 n8, .int .i64 n9, .int .i64 n10, .int .i64 n11, .string n12, .string n13, .int .i64 n14, .int .i64 n15, .int .i64 n16, .int .i64 n17, .slice a18 m18 c18, .int .i64 n19, .slice a20 m20 c20, .slice a21 m21 c21, .slice a22 m22 c22]] w (R_rec2 #[.bool false, .int .i64 n1, .int .i64 n2, .int .i64 n3, .int .i64 n4, .int .i64 n5, .int .i64 n6, .int .i64 n7, .int .i64 n8, .int .i64 n9, .int .i64 n10, .int .i64 n11, .string n12, .string n13, .int .i64 n14, .int .i64 n15, .int .i64 n16, .int .i64 n17, .slice a18 m18 c18, .int .i64 n19, .slice a20 m20 c20, .slice a21 m21 c21, .slice a22 m22 c22] B b c (s1.1, 11) w) := by
 have E0 := Hd hE0
 have t0 : (k == 0) = false := beq_eq_false_iff_ne.2 hk0
 have t1 : (k == 1) = false := beq_eq_false_iff_ne.2 hk1
 clear hE0 hk0 hk1
 have HS0 : Hid (StR w ((w.alloc (.cells #[.bool false, .int .i64 n1, .int .i64 n2, .int .i64 n3, .int .i64 n4, .int .i64 n5, .int .i64 n6, .int .i64 n7, .int .i64 n8, .int .i64 n9, .int .i64 n10, .int .i64 n11, .string n12, .string n13, .int .i64 n14, .int .i64 n15, .int .i64 n16, .int .i64 n17, .slice a18 m18 c18, .int .i64 n19, .slice a20 m20 c20, .slice a21 m21 c21, .slice a22 m22 c22] 61)).alloc (.cells #[.bool false, .int .i64 0, .int .i64 0, .int .i64 0, .int .i64 0, .int .i64 0, .int .i64 0, .int .i64 0, .int .i64 0, .int .i64 0, .int .i64 0, .int .i64 0, .string ⟨#[]⟩, .string ⟨#[]⟩, .int .i64 0, .int .i64 0, .int .i64 0, .int .i64 0, .slice none 0 0, .int .i64 0, .slice none 0 0, .slice none 0 0, .slice none 0 0] 61)) B b c w.heap.size 61 [.bool false, .int .i64 n1, .int .i64 n2, .int .i64 n3, .int .i64 n4, .int .i64 n5, .int .i64 n6, .int .i64 n7, .int .i64 n8, .int .i64 n9, .int .i64 n10, .int .i64 n11, .string n12, .string n13, .int .i64 n14, .int .i64 n15, .int .i64 n16, .int .i64 n17, .slice a18 m18 c18, .int .i64 n19, .slice a20 m20 c20, .slice a21 m21 c21, .slice a22 m22 c22] [.bool false, .int .i64 0, .int .i64 0, .int .i64 0, .int .i64 0, .int .i64 0, .int .i64 0, .int .i64 0, .int .i64 0, .int .i64 0, .int .i64 0, .int .i64 0, .string ⟨#[]⟩, .string ⟨#[]⟩, .int .i64 0, .int .i64 0, .int .i64 0, .int .i64 0, .slice none 0 0, .int .i64 0, .slice none 0 0, .slice none 0 0, .slice none 0 0] s) := Hd (StR.start h 61 (by decide) [.bool false, .int .i64 n1, .int .i64 n2, .int .i64 n3, .int .i64 n4, .int .i64 n5, .int .i64 n6, .int .i64 n7, .int .i64 n8, .int .i64 n9, .int .i64 n10, .int .i64 n11, .string n12, .string n13, .int .i64 n14, .int .i64 n15, .int .i64 n16, .int .i64 n17, .slice a18 m18 c18, .int .i64 n19, .slice a20 m20 c20, .slice a21 m21 c21, .slice a22 m22 c22] [.bool false, .int .i64 0, .int .i64 0, .int .i64 0, .int .i64 0, .int .i64 0, .int .i64 0, .int .i64 0, .int .i64 0, .int .i64 0, .int .i64 0, .int .i64 0, .string ⟨#[]⟩, .string ⟨#[]⟩, .int .i64 0, .int .i64 0, .int .i64 0, .int .i64 0, .slice none 0 0, .int .i64 0, .slice none 0 0, .slice none 0 0, .slice none 0 0])
 clear h
 have hm1 := mrnum c
 have hT := tR c
 go_enter Tryz.func35, Tryz.ntmps35
 have y00 := HS0.out.bx.cell 0
 simp only [List.getElem?_cons_zero] at y00
 go_wp2_with fail
 refine (crnum B b c 0 _ _ HS0.out.ob).mono ?_
 rw [E0.out]
 rintro e w1 ⟨he, h1, h2⟩
 rw [he.out]
 clear he y00
 have HS1 := Hd (HS0.out.call h1 h2)
 obtain ⟨e1, e2, _, hck, _, _⟩ := HS1.out.ob.rd
 have d1 := hck.cell 1
 have z1 := hck.fz 1
 simp only [gB] at d1
 have HWr := Hd (ro_wrong HS1.out.ob 11 (by decide))
 have HS2 := Hd (HS1.out.call HWr.out.1 HWr.out.2)
 clear h1 h2 HS0 HS1 hck HWr
 have HHb := Hd HS2.out.bx
 have HHr := Hd HS2.out.rs
 go_wp2_with (first | (refine wpList_load_row rfl _ _ rfl w.heap.size rfl 61 _ (0, 0) _ HHb.out Tryz.underlying61 rfl (by kernel_rfl) ?_) | (refine wpList_store_bk rfl _ _ _ rfl (w.heap.size + 1) 0 rfl _ [.bool false, .int .i64 n1, .int .i64 n2, .int .i64 n3, .int .i64 n4, .int .i64 n5, .int .i64 n6, .int .i64 n7, .int .i64 n8, .int .i64 n9, .int .i64 n10, .int .i64 n11, .string n12, .string n13, .int .i64 n14, .int .i64 n15, .int .i64 n16, .int .i64 n17, .slice a18 m18 c18, .int .i64 n19, .slice a20 m20 c20, .slice a21 m21 c21, .slice a22 m22 c22] rfl rfl (by kernel_rfl) 61 [.bool false, .int .i64 0, .int .i64 0, .int .i64 0, .int .i64 0, .int .i64 0, .int .i64 0, .int .i64 0, .int .i64 0, .int .i64 0, .int .i64 0, .int .i64 0, .string ⟨#[]⟩, .string ⟨#[]⟩, .int .i64 0, .int .i64 0, .int .i64 0, .int .i64 0, .slice none 0 0, .int .i64 0, .slice none 0 0, .slice none 0 0, .slice none 0 0] [.bool false, .int .i64 n1, .int .i64 n2, .int .i64 n3, .int .i64 n4, .int .i64 n5, .int .i64 n6, .int .i64 n7, .int .i64 n8, .int .i64 n9, .int .i64 n10, .int .i64 n11, .string n12, .string n13, .int .i64 n14, .int .i64 n15, .int .i64 n16, .int .i64 n17, .slice a18 m18 c18, .int .i64 n19, .slice a20 m20 c20, .slice a21 m21 c21, .slice a22 m22 c22] HHr.out (by simp) rfl rfl ?_))
 intro wf hsx hb
 have HO2 := Hd (HS2.out.resultS hsx)
 have HF2 := Hd (HS2.out.toStB.resultS hsx)
 have hb' : wf.heap[w.heap.size + 1]? = some (.cells _ _ (0, 0)) := hb
 have HB := Hd hb'
 clear hb hb' hsx HHb HHr
 go_wp2_with fail
 exact bodyPost_ret (results_cell_row rfl _ _ (w.heap.size + 1) _ _ _ _ rfl HB.out Tryz.underlying61 rfl (by kernel_rfl)) rfl ⟨rfl, HO2.out, HF2.out⟩
def zInsR : Ins := (0, (0, 0), (0, 0), (0, 0, 0, ⟨#[]⟩, ⟨#[]⟩, 0, 0, 0), 0, [])
theorem inR_zero (w : World) : inS.is w (inV zInsR (.slice none 0 0)) zInsR := in_mk (x := zInsR) (Nat.zero_le _) (Nat.zero_le _) row_nil
/-- What a record is read as. -/
def rcRd (s : RSt) : Rec4 × RSt := if (gNum s).1 = 0 then rc0Rd s else if (gNum s).1 = 1 then ((true, (0, 0, 0), zInsR, (snC.rd (gNum s).2).1), (snC.rd (gNum s).2).2) else ((false, (0, 0, 0), zInsR, zSnp), ((gNum s).2.1, 11))
def RrG (x : Rec4) (B b c : Nat) (s : RSt) (w : World) (e : Ending) (w' : World) : Prop := ∃ cs : Array Value, Hid (e = .returned (.agg cs)) ∧ cs.size = 23 ∧ cs.all (·.oneCell') = true ∧ (∀ w'' : World, (∀ k, w.heap.size ≤ k → k < w'.heap.size → w''.heap[k]? = w'.heap[k]?) → Oks (rcFs x) → rcS.is w'' cs.toList x) ∧ RO w' B b c s ∧ Ft B b c w w'
theorem r_recG (B b c : Nat) (x : Rec4) (s s' : RSt) (w : World) (h : RO w B b c s) (hE : rcRd s = (x, s')) : Calls Tryz.prog 35 #[fR c, .agg z23] w (RrG x B b c s' w) := by
 unfold rcRd at hE
 by_cases q0 : (gNum s).1 = 0
 ·rw [if_pos q0] at hE
  have hx : x.1 = false := by have := congrArg (fun p => p.1.1) hE; exact this.symm
  refine (r_recI B b c x s s' w h q0 hE).mono ?_
  rintro e w2 ⟨cs, he, h1, h2, h3, h4, h5⟩
  refine ⟨cs, he, h1, h2, fun w'' hk ho => h3 w'' hk ?_, h4, h5⟩
  unfold rcFs at ho
  rwa [hx] at ho
 rw [if_neg q0] at hE
 obtain ⟨k, s1, hk⟩ : ∃ x y, gNum s = (x, y) := ⟨_, _, rfl⟩
 rw [hk] at q0 hE
 simp only at q0 hE
 by_cases q1 : k = 1
 ·subst q1
  rw [if_pos rfl] at hE
  obtain ⟨⟨⟨r19, L20⟩, L21, L22⟩, s2, h1⟩ : ∃ x y, snC.rd s1 = (x, y) := ⟨_, _, rfl⟩
  rw [h1] at hE
  simp only [Prod.mk.injEq] at hE
  obtain ⟨rfl, rfl⟩ := hE
  refine (r_rec1 B b c 0 0 0 0 0 0 0 0 0 0 0 ⟨#[]⟩ ⟨#[]⟩ 0 0 0 0 none 0 0 0 none 0 0 none 0 0 none 0 0 r19 L20 L21 L22 s s1 s2 w h hk h1).mono ?_
  rintro e w2 ⟨b20, d20, f20, b21, d21, f21, b22, d22, f22, he, h20, h21, h22, g1, g2⟩
  refine ⟨_, he, rfl, (by rw [← Array.all_toList]; rfl), fun w'' hk ho => ?_, g1, g2⟩
  have hk' : ∀ (T : TypeId) (k : Nat), w.heap.size ≤ k → (Ty w2 k 9 ∨ Ty w2 k T) → w''.heap[k]? = w2.heap[k]? := fun T k h hq => hk k h (by rcases hq with ⟨cs, fr, q⟩ | ⟨cs, fr, q⟩ <;> exact (Array.getElem?_eq_some_iff.1 q).1)
  replace h20 := h20.keep (hk' _)
  replace h21 := h21.keep (hk' _)
  replace h22 := h22.keep (hk' _)
  unfold rcFs at ho
  simp only [if_true, snC, cfC, oks_cons, pairC_fs, oks_app] at ho
  obtain ⟨_, ⟨_, o20⟩, o21, o22⟩ := ho
  obtain ⟨rs20, g20⟩ := OwnR.row (S := numS) h20 (fun cs x _ hq => hq)
  obtain ⟨rs21, g21⟩ := OwnR.row (S := enS) h21 (fun cs x hx hq => en_row hq (oks_flat o21 x hx))
  obtain ⟨rs22, g22⟩ := OwnR.row (S := seS) h22 (fun cs x hx hq => se_row hq (oks_flat o22 x hx))
  exact rc_mk (x := (true, (0, 0, 0), zInsR, (r19, L20), L21, L22)) (inR_zero w'') (sn_mk (x := ((r19, L20), L21, L22)) g20 g21 g22)
 ·rw [if_neg q1] at hE
  simp only [Prod.mk.injEq] at hE
  obtain ⟨rfl, rfl⟩ := hE
  refine (r_rec2 B b c 0 0 0 0 0 0 0 0 0 0 0 ⟨#[]⟩ ⟨#[]⟩ 0 0 0 0 none 0 0 0 none 0 0 none 0 0 none 0 0 k s s1 w h hk q0 q1).mono ?_
  rintro e w2 ⟨he, g1, g2⟩
  exact ⟨_, he, rfl, (by rw [← Array.all_toList]; rfl), fun w'' _ _ => rc_mk (x := (false, (0, 0, 0), zInsR, zSnp)) (inR_zero w'') (sn_zero w''), g1, g2⟩
theorem rc_inv (xs : List Int) (hb : BytL xs) : (rcRd (xs, 0)).2.2 = 0 → Oks (rcFs (rcRd (xs, 0)).1) ∧ xs = eF (rcFs (rcRd (xs, 0)).1) ++ (rcRd (xs, 0)).2.1 := by
 unfold rcRd
 by_cases q0 : (gNum (xs, 0)).1 = 0
 ·rw [if_pos q0]
  exact rc0_inv xs hb q0
 rw [if_neg q0]
 by_cases q1 : (gNum (xs, 0)).1 = 1
 ·rw [if_pos q1]
  intro h
  have key := (pairC numC snC).inv xs hb h
  have e : ((pairC numC snC).rd (xs, 0)).1.1 = 1 := q1
  rw [pairC_fs, numC_fs, e] at key
  exact key
 ·rw [if_neg q1]
  intro h
  cases h
def GrG (xs : List Int) (w : World) (e : Ending) (w' : World) : Prop := ∃ u : Value, Hid (e = .returned (.tuple #[u, .int .i64 (endE (rcRd (xs, 0)).2)])) ∧ Below w.heap.size w w' ∧ ((endE (rcRd (xs, 0)).2 = 0 ∧ ∀ w'' : World, (∀ k, w.heap.size ≤ k → k < w'.heap.size → w''.heap[k]? = w'.heap[k]?) → RecIs w'' u (rcRd (xs, 0)).1) ∨ (endE (rcRd (xs, 0)).2 ≠ 0 ∧ u = .agg z23))
theorem read_recG (v : Value) (xs : List Int) (w : World) (h : Bt w v xs) (hx : BytL xs) (hl : xs.length ≤ 1000000000) :
  Calls Tryz.prog 34 #[v, .func (.func 35) #[] #[]] w (GrG xs w) := by
 have HY := Hd (h.below (((Below.refl _ _).alloc (Nat.le_refl _) (.cells z23 61)).alloc (by simp) (.cells z23 61)))
 have HX := Hd hx
 have HA : Hid (((w.alloc (.cells z23 61)).alloc (.cells z23 61)).heap[w.heap.size]? = some (.cells z23 61 (0, 0))) := Hd ((Below.heap_alloc _ _ _ (by simp)).trans (bka_new w _ _))
 have HB : Hid (((w.alloc (.cells z23 61)).alloc (.cells z23 61)).heap[w.heap.size + 1]? = some (.cells z23 61 (0, 0))) := Hd (by have := bka_new (w.alloc (.cells z23 61)) 61 z23; rwa [World.size_alloc] at this)
 have HW : Hid (Below w.heap.size w ((w.alloc (.cells z23 61)).alloc (.cells z23 61))) := Hd (((Below.refl _ _).alloc (Nat.le_refl _) _).alloc (by simp) _)
 clear h hx
 go_enter Tryz.func34, Tryz.ntmps34
 go_wp2_with fail
 refine (of_u v xs _ HY.out hl).mono ?_
 rintro e w1 ⟨b, he, h1, h2, h3⟩
 rw [he.out]
 clear he
 have hz : ((w.alloc (.cells z23 61)).alloc (.cells z23 61)).heap.size = w.heap.size + 2 := by simp
 have h1 : w.heap.size + 2 ≤ b := by rw [← hz]; exact h1
 have h3 : Below (w.heap.size + 2) ((w.alloc (.cells z23 61)).alloc (.cells z23 61)) w1 := by rw [← hz]; exact h3
 clear hz
 have hlt := h2.at'.size
 have HC := Hd (Bk.new w1 125 [.pointer (some ⟨b, 0, none⟩), .int .i64 0])
 have hu8 : ∀ k, U8 w1 k → (w1.alloc (.cells #[.pointer (some ⟨b, 0, none⟩), .int .i64 0] 125)).heap[k]? = w1.heap[k]? := fun k ⟨cs, fr, q⟩ => Below.heap_alloc _ _ _ (Array.getElem?_eq_some_iff.1 q).1
 have HO : Hid (RO (w1.alloc (.cells #[.pointer (some ⟨b, 0, none⟩), .int .i64 0] 125)) (w.heap.size + 2) b w1.heap.size (xs, 0)) := Hd ⟨⟨0, 0, h2.keep (by simp) (Below.heap_alloc _ _ _ hlt) hu8, HC.out, fun _ => rfl, fun q => absurd rfl q⟩, HX.out, hl, by omega, by omega, h1⟩
 have HA1 : Hid ((w1.alloc (.cells #[.pointer (some ⟨b, 0, none⟩), .int .i64 0] 125)).heap[w.heap.size]? = some (.cells z23 61 (0, 0))) := Hd ((Below.heap_alloc _ _ _ (by omega)).trans ((h3.block _ (by omega)).trans HA.out))
 have HB1 : Hid ((w1.alloc (.cells #[.pointer (some ⟨b, 0, none⟩), .int .i64 0] 125)).heap[w.heap.size + 1]? = some (.cells z23 61 (0, 0))) := Hd ((Below.heap_alloc _ _ _ (by omega)).trans ((h3.block _ (by omega)).trans HB.out))
 have HW1 : Hid (Below w.heap.size w (w1.alloc (.cells #[.pointer (some ⟨b, 0, none⟩), .int .i64 0] 125))) := Hd ((HW.out.trans (h3.mono (by omega))).alloc (by omega) _)
 have HZ := Hd (show w.heap.size + 2 ≤ b ∧ b < w1.heap.size from ⟨h1, hlt⟩)
 obtain ⟨x, s', hE⟩ : ∃ x y, rcRd (xs, 0) = (x, y) := ⟨_, _, rfl⟩
 have HE := Hd hE
 have HIn := Hd (rc_inv xs HX.out)
 unfold GrG
 rw [hE] at HIn ⊢
 clear hE h1 h2 h3 hu8 HA HB HW hlt
 go_wp2_with (refine wpList_load_row rfl _ _ rfl (w.heap.size + 1) rfl 61 z23 (0, 0) _ HB1.out Tryz.underlying61 rfl (by kernel_rfl) ?_)
 refine (r_recG (w.heap.size + 2) b w1.heap.size x _ s' _ HO.out HE.out).mono ?_
 rintro e w2 ⟨cs, he, hsz, hone, hok, h1, h2⟩
 rw [he.out]
 clear he
 have hbc : b < w2.heap.size ∧ w1.heap.size < w2.heap.size := ⟨h1.lt.1, h1.lt.2⟩
 have HI : Hid ((Tryz.prog.info? 61).map (·.size) = some cs.size) := Hd (by rw [hsz]; kernel_rfl)
 have HI2 : Hid (z23.size = cs.size) := Hd (by rw [hsz]; rfl)
 have HOne := Hd hone
 have HNew := Hd (bka_new w2 61 z23)
 have hsx := sx_setRow (w2.alloc (.cells z23 61)) w2.heap.size cs
 have HRow : Hid (((w2.alloc (.cells z23 61)).setRow w2.heap.size cs).heap[w2.heap.size]? = some (.cells cs 61 (0, 0))) := Hd (heap_setRow_same _ _ z23 cs _ (bka_new _ _ _))
 have hB3 : Below w2.heap.size w2 ((w2.alloc (.cells z23 61)).setRow w2.heap.size cs) := below_setRow ((Below.refl _ _).alloc (Nat.le_refl _) _) (Nat.le_refl _) cs
 have HO3 : Hid (RO ((w2.alloc (.cells z23 61)).setRow w2.heap.size cs) (w.heap.size + 2) b w1.heap.size s') := Hd (h1.below hB3)
 have hlow := h2.low
 have HA3 : Hid (((w2.alloc (.cells z23 61)).setRow w2.heap.size cs).heap[w.heap.size]? = some (.cells z23 61 (0, 0))) := Hd ((hB3.block _ (by have := HZ.out; omega)).trans ((hlow.block _ (by omega)).trans HA1.out))
 have HB3 : Hid (((w2.alloc (.cells z23 61)).setRow w2.heap.size cs).heap[w.heap.size + 1]? = some (.cells z23 61 (0, 0))) := Hd ((hB3.block _ (by have := HZ.out; omega)).trans ((hlow.block _ (by omega)).trans HB1.out))
 have HW3 : Hid (Below w.heap.size w ((w2.alloc (.cells z23 61)).setRow w2.heap.size cs)) := Hd ((HW1.out.trans (hlow.mono (by omega))).trans (hB3.mono (by have := HZ.out; omega)))
 have hst : w.heap.size + 1 < (w1.alloc (.cells #[.pointer (some ⟨b, 0, none⟩), .int .i64 0] 125)).heap.size := by have := HZ.out; simp; omega
 have HOk : Hid (∀ w'' : World, (∀ k, w.heap.size ≤ k → k < (((w2.alloc (.cells z23 61)).setRow w2.heap.size cs).setRow w.heap.size cs).heap.size → w''.heap[k]? = (((w2.alloc (.cells z23 61)).setRow w2.heap.size cs).setRow w.heap.size cs).heap[k]?) → Oks (rcFs x) → rcS.is w'' cs.toList x) := Hd (fun w'' hw'' => hok w'' (fun k hk1 hk2 => (hw'' k (by omega) (by have := hB3.size; rw [(sx_setRow _ w.heap.size cs).size]; omega)).trans (((sx_setRow _ w.heap.size cs).block k (by omega)).trans (hB3.block k hk2))))
 have HZ3 := Hd (show w.heap.size < w2.heap.size ∧ w.heap.size + 1 < w2.heap.size by have := HZ.out; omega)
 clear hsz hone hok h1 h2 hsx hB3 hlow hbc hst HO HA1 HB1 HW1
 go_wp2_with (refine wpList_store_row rfl 61 _ _ rfl w2.heap.size rfl cs rfl z23 61 HNew.out HI.out HI2.out HOne.out ?_)
 refine (crend _ _ _ s' ((w2.alloc (.cells z23 61)).setRow w2.heap.size cs) HO3.out).mono ?_
 rintro e w4 ⟨rfl, rfl⟩
 generalize hw3 : (w2.alloc (.cells z23 61)).setRow w2.heap.size cs = w3 at *
 clear hw3
 obtain ⟨er, her⟩ : ∃ er, endE s' = er := ⟨_, rfl⟩
 have HEr := Hd her
 rw [her]
 clear her
 by_cases q : er = 0
 ·subst q
  have HS0 := Hd (endE_ok HEr.out)
  have hlt0 : w.heap.size < w3.heap.size := (Array.getElem?_eq_some_iff.1 HA3.out).1
  have hBf : Below w.heap.size w3 (w3.setRow w.heap.size cs) := below_setRow (Below.refl _ _) (Nat.le_refl _) cs
  have HLv : Hid ((loadVar 61 ⟨w.heap.size, 0, none⟩).run Tryz.prog (w3.setRow w.heap.size cs) = .ok (.agg cs) (w3.setRow w.heap.size cs)) := Hd (run_loadVar_row _ _ _ _ cs (0, 0) _ (heap_setRow_same _ _ z23 cs _ HA3.out) Tryz.underlying61 rfl HI.out)
  have HBf := Hd (HW3.out.trans hBf)
  have HMf : Hid (∀ w'' : World, (∀ k, w.heap.size ≤ k → k < (w3.setRow w.heap.size cs).heap.size → w''.heap[k]? = (w3.setRow w.heap.size cs).heap[k]?) → RecIs w'' (.agg cs) x) := Hd (fun w'' hw'' => ⟨cs, rfl, HOk.out w'' hw'' (HIn.out HS0.out.1).1⟩)
  clear hBf
  go_wp2_with (first | (refine wpList_load_row rfl _ _ rfl w2.heap.size rfl 61 cs (0, 0) _ HRow.out Tryz.underlying61 rfl HI.out ?_) | (refine wpList_store_row rfl 61 _ _ rfl w.heap.size rfl cs rfl z23 61 HA3.out HI.out HI2.out HOne.out ?_))
  have hlv := HLv.out
  exact bodyPost_ret (v := .tuple #[.agg cs, .int .i64 0]) (by simp [results, Tryz.results34, asAddr, hlv]) rfl (by unfold GrG; rw [HE.out]; exact ⟨.agg cs, Hd (by rw [HEr.out]), HBf.out, .inl ⟨HEr.out, HMf.out⟩⟩)
 ·have q1 : (er == 0) = false := by simpa using q
  have q2 : (er != 0) = true := by simpa using q
  have hBf : Below w.heap.size w3 (w3.setRow w.heap.size z23) := below_setRow (Below.refl _ _) (Nat.le_refl _) z23
  have HLv : Hid ((loadVar 61 ⟨w.heap.size, 0, none⟩).run Tryz.prog (w3.setRow w.heap.size z23) = .ok (.agg z23) (w3.setRow w.heap.size z23)) := Hd (run_loadVar_row _ _ _ _ z23 (0, 0) _ (heap_setRow_same _ _ z23 z23 _ HA3.out) Tryz.underlying61 rfl (by kernel_rfl))
  have HBf := Hd (HW3.out.trans hBf)
  have HQ := Hd q
  clear hBf q
  go_wp2_with (first | (refine wpList_load_row rfl _ _ rfl (w.heap.size + 1) rfl 61 z23 (0, 0) _ HB3.out Tryz.underlying61 rfl (by kernel_rfl) ?_) | (refine wpList_store_row rfl 61 _ _ rfl w.heap.size rfl z23 rfl z23 61 HA3.out (by kernel_rfl) rfl (by rw [← Array.all_toList]; rfl) ?_))
  have hlv := HLv.out
  exact bodyPost_ret (v := .tuple #[.agg z23, .int .i64 er]) (by simp [results, Tryz.results34, asAddr, hlv]) rfl (by unfold GrG; rw [HE.out]; exact ⟨.agg z23, Hd (by rw [HEr.out]), HBf.out, .inr ⟨by rw [HEr.out]; exact HQ.out, rfl⟩⟩)
theorem get_any (v : Value) (xs : List Int) (w : World) (h : Bt w v xs) (hx : BytL xs) (hl : xs.length ≤ 1000000000) :
  Calls Tryz.prog 15 #[v] w (GrG xs w) := by
 have HY := Hd (h.below ((Below.refl _ _).alloc (Nat.le_refl _) (.cells z23 61)))
 have HX := Hd hx
 have HA := Hd (bka_new w 61 z23)
 clear h hx
 go_enter Tryz.func15, Tryz.ntmps15
 go_wp2_with fail
 refine (read_recG v xs _ HY.out HX.out hl).mono ?_
 rintro e w1 ⟨u, he, h1, h2⟩
 rw [he.out]
 clear he
 have h1 : Below (w.heap.size + 1) (w.alloc (.cells z23 61)) w1 := by have := h1; simpa using this
 have hA1 : w1.heap[w.heap.size]? = some (.cells z23 61 (0, 0)) := (h1.block _ (by omega)).trans HA.out
 have HA1 := Hd hA1
 obtain ⟨cs, hu, hsz, hone, hM⟩ : ∃ cs : Array Value, u = .agg cs ∧ cs.size = 23 ∧ cs.all (·.oneCell') = true ∧ ((endE (rcRd (xs, 0)).2 = 0 ∧ ∀ w'' : World, (∀ k, w.heap.size + 1 ≤ k → k < w1.heap.size → w''.heap[k]? = w1.heap[k]?) → rcS.is w'' cs.toList (rcRd (xs, 0)).1) ∨ (endE (rcRd (xs, 0)).2 ≠ 0 ∧ cs = z23)) := by
  rcases h2 with ⟨q, hm0⟩ | ⟨q, rfl⟩
  ·obtain ⟨cs, rfl, hm⟩ := hm0 w1 (fun _ _ _ => rfl)
   exact ⟨cs, rfl, rc_size hm, by rw [← Array.all_toList]; exact List.all_eq_true.2 (fun v hv => rcS.one hm v hv), .inl ⟨q, fun w'' hw'' => by
    obtain ⟨cs', e, hm'⟩ := hm0 w'' (fun k hk1 hk2 => hw'' k (by simpa using hk1) hk2)
    simp only [Value.agg.injEq] at e
    subst e
    exact hm'⟩⟩
  ·exact ⟨z23, rfl, rfl, by rw [← Array.all_toList]; rfl, .inr ⟨q, rfl⟩⟩
 subst hu
 have HI : Hid ((Tryz.prog.info? 61).map (·.size) = some cs.size) := Hd (by rw [hsz]; kernel_rfl)
 have HI2 : Hid (z23.size = cs.size) := Hd (by rw [hsz]; rfl)
 have HOne := Hd hone
 have hBf : Below w.heap.size w (w1.setRow w.heap.size cs) := below_setRow (((Below.refl _ _).alloc (Nat.le_refl _) _).trans (h1.mono (by omega))) (Nat.le_refl _) cs
 have HBf := Hd hBf
 have HLv : Hid ((loadVar 61 ⟨w.heap.size, 0, none⟩).run Tryz.prog (w1.setRow w.heap.size cs) = .ok (.agg cs) (w1.setRow w.heap.size cs)) := Hd (run_loadVar_row _ _ _ _ cs (0, 0) _ (heap_setRow_same _ _ z23 cs _ hA1) Tryz.underlying61 rfl HI.out)
 have HMf : Hid ((endE (rcRd (xs, 0)).2 = 0 ∧ ∀ w'' : World, (∀ k, w.heap.size ≤ k → k < (w1.setRow w.heap.size cs).heap.size → w''.heap[k]? = (w1.setRow w.heap.size cs).heap[k]?) → RecIs w'' (.agg cs) (rcRd (xs, 0)).1) ∨ (endE (rcRd (xs, 0)).2 ≠ 0 ∧ cs = z23)) := Hd (by
  rcases hM with ⟨q, hm⟩ | ⟨q, hm⟩
  ·exact .inl ⟨q, fun w'' hw'' => ⟨cs, rfl, hm w'' (fun k hk1 hk2 => (hw'' k (by omega) (by rw [(sx_setRow _ w.heap.size cs).size]; exact hk2)).trans ((sx_setRow _ w.heap.size cs).block k (by omega)))⟩⟩
  ·exact .inr ⟨q, hm⟩)
 obtain ⟨er, her⟩ : ∃ er, endE (rcRd (xs, 0)).2 = er := ⟨_, rfl⟩
 have HEr := Hd her
 rw [her]
 clear h1 h2 hA1 hsz hone hBf hM her
 go_wp2_with (refine wpList_store_row rfl 61 _ _ rfl w.heap.size rfl cs rfl z23 61 HA1.out HI.out HI2.out HOne.out ?_)
 have hlv := HLv.out
 exact bodyPost_ret (v := .tuple #[.agg cs, .int .i64 er]) (by simp [results, Tryz.results15, asAddr, hlv]) rfl ⟨.agg cs, Hd (by rw [HEr.out]), HBf.out, by
  rcases HMf.out with ⟨q, hm⟩ | ⟨q, hm⟩
  ·exact .inl ⟨q, hm⟩
  ·exact .inr ⟨q, by rw [hm]⟩⟩
theorem rcRd_back {x : Rec4} (h : rcGood x) : rcRd (eF (rcFs x), 0) = (x, ([], 0)) := by
 obtain ⟨hg, ho⟩ := h
 obtain ⟨b, id, ins, ⟨⟨n19, l20⟩, l21, l22⟩⟩ := x
 cases b with
 | true =>
  simp only [if_true] at hg
  have e : rcFs (true, id, ins, (n19, l20), l21, l22) = .num 1 :: snC.fs ((n19, l20), l21, l22) := rfl
  rw [e] at ho ⊢
  have key := (pairC numC snC).back (1, ((n19, l20), l21, l22)) [] ho
  rw [List.append_nil] at key
  have key2 : (pairC numC snC).rd (eF (.num 1 :: snC.fs ((n19, l20), l21, l22)), 0) = ((1, ((n19, l20), l21, l22)), ([], 0)) := key
  rw [pairC_rd, numC_rd] at key2
  simp only [Prod.mk.injEq] at key2
  obtain ⟨⟨k1, k2⟩, k3⟩ := key2
  unfold rcRd
  rw [k1, if_neg (by decide), if_pos rfl, k2, k3]
  obtain ⟨⟨h1, h2, h3⟩, h4, ⟨h5, h6⟩, ⟨h7, h8⟩, ⟨h9, h10, h11, h12, h13, h14, h15, h16⟩, h17, h18⟩ := hg
  obtain ⟨i1, i2, i3⟩ := id
  obtain ⟨n4, ⟨n5, n6⟩, ⟨n7, n8⟩, ⟨n9, n10, n11, n12, n13, n14, n15, n16⟩, n17, l18⟩ := ins
  simp only at h1 h2 h3 h4 h5 h6 h7 h8 h9 h10 h11 h12 h13 h14 h15 h16 h17 h18
  have h18' := List.eq_nil_of_length_eq_zero h18
  subst h1 h2 h3 h4 h5 h6 h7 h8 h9 h10 h11 h12 h13 h14 h15 h16 h17 h18'
  rfl
 | false =>
  simp only [Bool.false_eq_true, if_false] at hg
  have e : rcFs (false, id, ins, (n19, l20), l21, l22) = .num 0 :: (idC.fs id ++ inC.fs ins) := rfl
  rw [e] at ho ⊢
  have key := (pairC numC (pairC idC inC)).back (0, id, ins) [] (by rw [pairC_fs, pairC_fs]; exact ho)
  rw [List.append_nil] at key
  have key2 : (pairC numC (pairC idC inC)).rd (eF (.num 0 :: (idC.fs id ++ inC.fs ins)), 0) = ((0, id, ins), ([], 0)) := by
   rw [pairC_fs, pairC_fs] at key
   exact key
  rw [pairC_rd, numC_rd, pairC_rd] at key2
  simp only [Prod.mk.injEq] at key2
  obtain ⟨⟨k1, k2, k3⟩, k4⟩ := key2
  unfold rcRd rc0Rd
  rw [k1, if_pos rfl, k2, k3, k4]
  obtain ⟨h1, h2, h3, h4⟩ := hg
  simp only at h1 h2 h3 h4
  have h2' := List.eq_nil_of_length_eq_zero h2
  have h3' := List.eq_nil_of_length_eq_zero h3
  have h4' := List.eq_nil_of_length_eq_zero h4
  subst h1 h2' h3' h4'
  rfl
end Go.Proofs.YtnancdbkmompdaaGreat
