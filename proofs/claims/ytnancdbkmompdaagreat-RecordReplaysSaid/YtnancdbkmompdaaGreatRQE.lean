/-
  Texts put together: Cd1, Cd2, CdN, Cd3.
-/
import Derived.Test.YtnancdbkmompdaaGreatRY
import Derived.Test.YtnancdbkmompdaaGreatRQB
import Derived.Test.YtnancdbkmompdaaGreatRQD
import Derived.Test.YtnancdbkmompdaaGreatRQC
import Derived.Laws.OwnMore
namespace Go.Proofs.YtnancdbkmompdaaGreat
open Go.RowKit
set_option linter.unusedSimpArgs false
set_option linter.unusedVariables false
set_option maxRecDepth 100000
set_option maxHeartbeats 40000000
/-- A block of bytes. -/
def U8 (w : World) (k : Nat) : Prop := ∃ cs fr, w.heap[k]? = some (.cells cs 5 fr)
/-- Below B nothing is written; else only blocks b and c, rows of bytes, and new blocks. -/
structure Ft (B b c : Nat) (w w' : World) : Prop where
 low : Below B w w'
 keep : ∀ k, k < w.heap.size → k ≠ b → k ≠ c → ¬ U8 w k → w'.heap[k]? = w.heap[k]?
theorem Ft.size {B b c : Nat} {w w' : World} (h : Ft B b c w w') : w.heap.size ≤ w'.heap.size := h.low.size
theorem Ft.refl (B b c : Nat) (w : World) : Ft B b c w w := ⟨Below.refl _ _, fun _ _ _ _ _ => rfl⟩
theorem Ft.trans {B b c : Nat} {w w1 w2 : World} (h : Ft B b c w w1) (k : Ft B b c w1 w2) : Ft B b c w w2 :=
 ⟨h.low.trans k.low, fun j h1 h2 h3 h4 => by
  have e := h.keep j h1 h2 h3 h4
  exact (k.keep j (Nat.lt_of_lt_of_le h1 h.size) h2 h3 (fun q => h4 (by unfold U8 at q ⊢; rwa [e] at q))).trans e⟩
theorem Ft.alloc {B b c : Nat} {w w' : World} (h : Ft B b c w w') (hB : B ≤ w'.heap.size) (o : Obj) : Ft B b c w (w'.alloc o) :=
 ⟨h.low.alloc hB o, fun k h1 h2 h3 h4 => (Below.heap_alloc _ _ _ (by have := h.size; omega)).trans (h.keep k h1 h2 h3 h4)⟩
theorem Ft.setC {B b c : Nat} {w w' : World} (h : Ft B b c w w') (hB : B ≤ c) (o : Nat) (u : Value) : Ft B b c w (w'.setCell ⟨c, o, none⟩ u) :=
 ⟨h.low.setCell hB u, fun k h1 h2 h3 h4 => (Below.heap_setCell _ _ _ _ (by show k ≠ c; omega)).trans (h.keep k h1 h2 h3 h4)⟩
theorem Ft.grown {B b c : Nat} {w w1 w2 : World} {v : Value} (h : Ft B b c w w1) (hg : w1.grownBy w2 v.ownBlock) (hv : ∀ k, v.ownBlock = some k → w.heap.size ≤ k ∧ B ≤ k) (hB : B ≤ w1.heap.size) : Ft B b c w w2 :=
 ⟨h.low.trans ((Below.refl B w1).grown hg hB (fun k hk => (hv k hk).2)), fun k h1 h2 h3 h4 => (hg.block k (Nat.lt_of_lt_of_le h1 h.size) (fun e => by have := (hv k e.symm).1; omega)).trans (h.keep k h1 h2 h3 h4)⟩
theorem Ft.of_below {B b c : Nat} {w w' : World} (h : Below w.heap.size w w') (hB : B ≤ w.heap.size) : Ft B b c w w' := ⟨h.mono hB, fun k h1 _ _ _ => h.block k h1⟩
theorem Ft.of_foot {B b c : Nat} {w w' : World} {v : Value} (h : Foot w w' b v) (hb : B ≤ b) (hlt : b < w.heap.size) (hv : ∀ k, v.ownBlock = some k → B ≤ k ∧ U8 w k) : Ft B b c w w' :=
 ⟨h.below hb (fun k e => (hv k e).1) (by omega), fun k h1 h2 _ h4 => h.block k h1 h2 (fun e => h4 (hv k e.symm).2)⟩
theorem bk_u8 {w : World} {k : Nat} {T : TypeId} {cs : List Value} (h : Bk w k T cs) (hT : T ≠ 5) : ¬ U8 w k := by
 rintro ⟨cs2, fr, q⟩
 have h' : w.heap[k]? = some (.cells cs.toArray T (0, 0)) := h
 rw [h'] at q
 simp only [Option.some.injEq, Obj.cells.injEq] at q
 exact hT q.2.1
theorem Bk.ft {B b c : Nat} {w w' : World} {k : Nat} {T : TypeId} {cs : List Value} (h : Bk w k T cs) (hF : Ft B b c w w') (hb : k ≠ b) (hc : k ≠ c) (hT : T ≠ 5) : Bk w' k T cs :=
 (hF.keep k h.lt hb hc (bk_u8 h hT)).trans h
/-- A row of one's own is kept. -/
theorem Knd.Own.ft {α : Type} {K : Knd Tryz.prog α} {B b c : Nat} {w w' : World} {base : Nat} {v : Value} {l : List α} (h : K.Own w base v l) (hF : Ft B b c w w') (hT : K.T ≠ 5) (hb : ∀ k, v.ownBlock = some k → k ≠ b ∧ k ≠ c) : K.Own w' base v l :=
 h.keepB fun k hk => by
  obtain ⟨h1, cs, fr, h2⟩ := h.blk k hk
  refine hF.keep k h1 (hb k hk).1 (hb k hk).2 ?_
  rintro ⟨cs2, fr2, q⟩
  rw [h2] at q
  simp only [Option.some.injEq, Obj.cells.injEq] at q
  exact hT q.2.1
def stl (st : Option (List Int)) : List Int := st.getD []
/-- Package code's writer at c, its num.Writer at b. -/
structure WO (w : World) (B b c : Nat) (st : Option (List Int)) : Prop where
 wr : ∃ v, WrV w B b v (stl st) st.isNone
 bx : Bk w c 137 [.pointer (some ⟨b, 0, none⟩)]
 ne : b ≠ c
 low : B ≤ c
theorem WO.lb {w : World} {B b c : Nat} {st : Option (List Int)} (h : WO w B b c st) : b < w.heap.size ∧ B ≤ b := by obtain ⟨v, q⟩ := h.wr; exact ⟨q.lt, q.low⟩
/-- It stays where its blocks do, and rows of bytes. -/
theorem WO.keep {w w' : World} {B b c : Nat} {st : Option (List Int)} (h : WO w B b c st) (hs : w.heap.size ≤ w'.heap.size) (hb : w'.heap[b]? = w.heap[b]?) (hc : w'.heap[c]? = w.heap[c]?) (hu : ∀ k, U8 w k → w'.heap[k]? = w.heap[k]?) : WO w' B b c st := by
 obtain ⟨v, q⟩ := h.wr
 exact ⟨⟨v, q.keep hs hb (fun k hk => hu k (q.own.blk k hk))⟩, hc.trans h.bx, h.ne, h.low⟩
theorem WO.below {w w' : World} {B b c : Nat} {st : Option (List Int)} (h : WO w B b c st) (hb : Below w.heap.size w w') : WO w' B b c st :=
 h.keep hb.size (hb.block b h.lb.1) (hb.block c h.bx.lt) (fun k ⟨cs, fr, q⟩ => hb.block k (Array.getElem?_eq_some_iff.1 q).1)
theorem WO.grown {w w' : World} {B b c : Nat} {st : Option (List Int)} (h : WO w B b c st) {α : Type} {K : Knd Tryz.prog α} {base : Nat} {v : Value} {l : List α} (ho : K.Own w base v l) (hT : K.T ≠ 5) (hb : ∀ k, v.ownBlock = some k → k ≠ b ∧ k ≠ c) (hg : w.grownBy w' v.ownBlock) : WO w' B b c st :=
 h.keep hg.size (hg.block b h.lb.1 (fun e => (hb b e.symm).1 rfl)) (hg.block c h.bx.lt (fun e => (hb c e.symm).2 rfl)) (fun k ⟨cs, fr, q⟩ => hg.block k (Array.getElem?_eq_some_iff.1 q).1 (fun e => by
  obtain ⟨h1, cs2, fr2, h2⟩ := ho.blk k e.symm
  rw [h2] at q
  simp only [Option.some.injEq, Obj.cells.injEq] at q
  exact hT q.2.1))
/-- What a call of the writer answers, and leaves. -/
def WP (v : Value) (B b c : Nat) (st : Option (List Int)) (w : World) (e : Ending) (w' : World) : Prop := Hid (e = .returned v) ∧ WO w' B b c st ∧ Ft B b c w w'
theorem wop_of {B b c : Nat} {v0 : Value} {xs : List Int} {sp : Bool} {w w' : World} {st st' : Option (List Int)} (h : WO w B b c st) (hv : WrV w B b v0 xs sp) (hF : Foot w w' b v0) (hx : ∃ v', WrV w' B b v' (stl st') st'.isNone) : WO w' B b c st' ∧ Ft B b c w w' := by
 have hc : w'.heap[c]? = w.heap[c]? := hF.block c h.bx.lt (Ne.symm h.ne) (fun e => by
  have := bk_u8 h.bx (by decide)
  exact this (hv.own.blk c e.symm))
 exact ⟨⟨hx, hc.trans h.bx, h.ne, h.low⟩, Ft.of_foot hF hv.low hv.lt (fun k hk => ⟨own8_from hv.own k hk, hv.own.blk k hk⟩)⟩
theorem wr1_ok {st : Option (List Int)} {xs : List Int} (h : st = some xs) {f : Fd} (hf : f.ok) : wr1 st f = some (xs ++ f.enc) := by subst h; simp [wr1, hf]
theorem wr1_bad {st : Option (List Int)} {f : Fd} (hf : ¬ f.ok) : wr1 st f = none := by cases st <;> simp [wr1, hf]
/-- num.Writer's Num, whatever it was. -/
theorem onum (B b c : Nat) (n : Int) (st : Option (List Int)) (w : World) (h : WO w B b c st) (hl : (stl st).length ≤ 99999990000) :
  Calls Tryz.prog 151 #[.pointer (some ⟨b, 0, none⟩), .int .i64 n] w (WP (.pointer (some ⟨b, 0, none⟩)) B b c (wr1 st (.num n)) w) := by
 obtain ⟨v0, q⟩ := h.wr
 cases st with
 | none =>
  refine (vnum_spoilt B b n v0 w q).mono ?_
  rintro e w' ⟨he, v', h1, h2, h3⟩
  exact ⟨he, wop_of h q h2 ⟨v', h1⟩⟩
 | some xs =>
  by_cases hn : okN n
  ·refine (vnum_good B b n v0 xs w q hn.1 hn.2 (by simp [stl] at hl; omega)).mono ?_
   rintro e w' ⟨he, v', h1, h2, h3⟩
   refine ⟨he, wop_of h q h2 ?_⟩
   rw [wr1_ok rfl (show (Fd.num n).ok from hn)]
   exact ⟨v', h1⟩
  ·refine (vnum_bad B b n v0 xs _ w q hn).mono ?_
   rintro e w' ⟨he, v', h1, h2, h3⟩
   refine ⟨he, wop_of h q h2 ?_⟩
   rw [wr1_bad (show ¬ (Fd.num n).ok from hn)]
   exact ⟨v', h1⟩
theorem otext (B b c : Nat) (s : ByteArray) (st : Option (List Int)) (w : World) (h : WO w B b c st) (hl : (stl st).length ≤ 99999990000) (hs : s.size ≤ 4096) :
  Calls Tryz.prog 152 #[.pointer (some ⟨b, 0, none⟩), .string s] w (WP (.pointer (some ⟨b, 0, none⟩)) B b c (wr1 st (.txt s)) w) := by
 obtain ⟨v0, q⟩ := h.wr
 cases st with
 | none =>
  refine (vtext_spoilt B b s v0 w q).mono ?_
  rintro e w' ⟨he, v', h1, h2, h3⟩
  exact ⟨he, wop_of h q h2 ⟨v', h1⟩⟩
 | some xs =>
  refine (vtext_good B b s v0 xs w q (by simp [stl] at hl; omega) (by omega)).mono ?_
  rintro e w' ⟨he, v', h1, h2, h3⟩
  refine ⟨he, wop_of h q h2 ?_⟩
  rw [wr1_ok rfl (show (Fd.txt s).ok from hs)]
  exact ⟨v', h1⟩
theorem cwnum (B b c : Nat) (n : Int) (st : Option (List Int)) (w : World) (h : WO w B b c st) (hl : (stl st).length ≤ 99999990000) :
  Calls Tryz.prog 148 #[.pointer (some ⟨c, 0, none⟩), .int .i64 n] w (WP (.int .i64 n) B b c (wr1 st (.num n)) w) := by
 have HW := Hd h
 have c0 := h.bx.cell 0
 simp only [List.getElem?_cons_zero] at c0
 clear h
 go_enter Tryz.func148, Tryz.ntmps148
 go_wp2_with fail
 refine (onum B b c n st _ HW.out hl).mono ?_
 rintro e w1 ⟨he, h1, h2⟩
 rw [he.out]
 clear he
 have H1 := Hd h1
 have H2 := Hd h2
 clear h1 h2
 go_wp2_with fail
 go_ret
 exact ⟨rfl, H1.out, H2.out⟩
theorem cwspoil (B b c : Nat) (f : Fd) (hf : ¬ f.ok) (st : Option (List Int)) (w : World) (h : WO w B b c st) (hl : (stl st).length ≤ 99999990000) :
  Calls Tryz.prog 149 #[.pointer (some ⟨c, 0, none⟩)] w (WP (.tuple #[]) B b c (wr1 st f) w) := by
 have HW := Hd h
 have c0 := h.bx.cell 0
 simp only [List.getElem?_cons_zero] at c0
 clear h
 have HE : Hid (wr1 st (.num (-1)) = wr1 st f) := Hd (by rw [wr1_bad hf, wr1_bad (show ¬ (Fd.num (-1)).ok from fun h => by have := h.1; omega)])
 go_enter Tryz.func149, Tryz.ntmps149
 go_wp2_with fail
 refine (onum B b c (-1) st _ HW.out hl).mono ?_
 rw [HE.out]
 rintro e w1 ⟨he, h1, h2⟩
 rw [he.out]
 clear he
 have H1 := Hd h1
 have H2 := Hd h2
 clear h1 h2
 go_wp2_with fail
 go_end0
 exact ⟨rfl, H1.out, H2.out⟩
theorem cwtext (B b c : Nat) (s : ByteArray) (st : Option (List Int)) (w : World) (h : WO w B b c st) (hl : (stl st).length ≤ 99999990000) (hs : s.size ≤ 9223372036854775807) :
  Calls Tryz.prog 150 #[.pointer (some ⟨c, 0, none⟩), .string s] w (WP (.string s) B b c (wr1 st (.txt s)) w) := by
 have HW := Hd h
 have c0 := h.bx.cell 0
 simp only [List.getElem?_cons_zero] at c0
 clear h
 by_cases q : s.size ≤ 4096
 ·have q1 : decide ((4096 : Int) < s.size) = false := by simp; omega
  go_enter Tryz.func150, Tryz.ntmps150
  go_wp2_with fail
  refine (otext B b c s st _ HW.out hl q).mono ?_
  rintro e w1 ⟨he, h1, h2⟩
  rw [he.out]
  clear he
  have H1 := Hd h1
  have H2 := Hd h2
  clear h1 h2
  go_wp2_with fail
  go_ret
  exact ⟨rfl, H1.out, H2.out⟩
 ·have q1 : decide ((4096 : Int) < s.size) = true := by simp; omega
  go_enter Tryz.func150, Tryz.ntmps150
  go_wp2_with fail
  refine (cwspoil B b c (.txt s) q st _ HW.out hl).mono ?_
  rintro e w1 ⟨he, h1, h2⟩
  rw [he.out]
  clear he
  have H1 := Hd h1
  have H2 := Hd h2
  clear h1 h2
  go_wp2_with fail
  go_ret
  exact ⟨rfl, H1.out, H2.out⟩
theorem cwcount (B b c : Nat) (n : Nat) (st : Option (List Int)) (w : World) (h : WO w B b c st) (hl : (stl st).length ≤ 99999990000) (hn : n ≤ 9223372036854775807) :
  Calls Tryz.prog 147 #[.pointer (some ⟨c, 0, none⟩), .int .i64 n] w (WP (.int .i64 (if n ≤ 1024 then n else 0 : Nat)) B b c (wr1 st (.cnt n)) w) := by
 have HW := Hd h
 have c0 := h.bx.cell 0
 simp only [List.getElem?_cons_zero] at c0
 clear h
 by_cases q : n ≤ 1024
 ·rw [if_pos q]
  have HE : Hid (wr1 st (.num n) = wr1 st (.cnt n)) := Hd (by
   have hk : (Fd.num (n : Int)).ok := ⟨by omega, by omega⟩
   cases st with
   | none => rfl
   | some xs => rw [wr1_ok rfl hk, wr1_ok rfl (show (Fd.cnt n).ok from q)]; rfl)
  have q1 : ¬ (1024 : Int) < n := by omega
  go_enter Tryz.func147, Tryz.ntmps147
  go_wp2_with fail
  refine (cwnum B b c n st _ HW.out hl).mono ?_
  rw [HE.out]
  rintro e w1 ⟨he, h1, h2⟩
  rw [he.out]
  clear he
  have H1 := Hd h1
  have H2 := Hd h2
  clear h1 h2
  go_wp2_with fail
  go_ret
  exact ⟨rfl, H1.out, H2.out⟩
 ·rw [if_neg q]
  have q1 : (1024 : Int) < n := by omega
  go_enter Tryz.func147, Tryz.ntmps147
  go_wp2_with fail
  refine (cwspoil B b c (.cnt n) q st _ HW.out hl).mono ?_
  rintro e w1 ⟨he, h1, h2⟩
  rw [he.out]
  clear he
  have H1 := Hd h1
  have H2 := Hd h2
  clear h1 h2
  go_wp2_with fail
  go_ret
  exact ⟨rfl, H1.out, H2.out⟩
/-- num.Reader at b, its bytes a row of bytes. -/
structure RdU (w : World) (b : Nat) (xs : List Int) (er : Int) : Prop where
 at' : RdAt w b xs er
 u8 : ∀ ad n cap, w.cell? ⟨b, 0, none⟩ = some (.slice (some ad) n cap) → U8 w ad.block
theorem RdU.keep {w w' : World} {b : Nat} {xs : List Int} {er : Int} (h : RdU w b xs er) (hs : w.heap.size ≤ w'.heap.size) (hb : w'.heap[b]? = w.heap[b]?) (hu : ∀ k, U8 w k → w'.heap[k]? = w.heap[k]?) : RdU w' b xs er := by
 obtain ⟨⟨c1, f0, f1, hz, ⟨a, cap, c0, hr, hf⟩, ha⟩, hu8⟩ := h
 have e0 := World.cell?_of_block (a := ⟨b, 0, none⟩) hb
 refine ⟨⟨(World.cell?_of_block (a := ⟨b, 1, none⟩) hb).trans c1, (World.frozen?_of_block (a := ⟨b, 0, none⟩) hb).trans f0, (World.frozen?_of_block (a := ⟨b, 1, none⟩) hb).trans f1, Nat.lt_of_lt_of_le hz hs, ⟨a, cap, e0.trans c0, ?_, hf⟩, ?_⟩, ?_⟩
 ·obtain ⟨h1, h2⟩ := hr
  refine ⟨h1, ?_⟩
  rcases h2 with h2 | ⟨g, off, rfl, hg, hc⟩
  ·exact .inl h2
  ·have hk := hu g (hu8 _ _ _ c0)
   exact .inr ⟨g, off, rfl, Nat.lt_of_lt_of_le hg hs, fun i hi => (World.cell?_of_block (a := ⟨g, off + i, none⟩) hk).trans (hc i hi)⟩
 ·intro ad c2 hc
  rw [e0] at hc
  exact ha ad c2 hc
 ·intro ad n c2 hc
  rw [e0] at hc
  have := hu8 ad n c2 hc
  unfold U8 at this ⊢
  rwa [hu _ (hu8 ad n c2 hc)]
theorem RdU.onl {w w' : World} {b : Nat} {xs xs' : List Int} {er er' : Int} (h : RdU w b xs er) (hF : Onl b w w') (h' : RdAt w' b xs' er') : RdU w' b xs' er' := by
 refine ⟨h', fun ad n cap hc => ?_⟩
 obtain ⟨ad0, n0, cap0, h1, h2⟩ := hF.sb ad n cap hc
 have hu := h.u8 ad0 n0 cap0 h1
 rw [h2] at hu
 have hne : ad.block ≠ b := by
  intro e
  rw [e] at hu
  obtain ⟨a, c, c0, hr, hf⟩ := h.at'.left
  rw [c0] at h1
  simp only [Option.some.injEq, Value.slice.injEq] at h1
  obtain ⟨rfl, rfl, rfl⟩ := h1
  exact h.at'.apart ad0 _ c0 (h2.trans e)
 obtain ⟨cs, fr, q⟩ := hu
 exact ⟨cs, fr, (hF.ft.block _ (Array.getElem?_eq_some_iff.1 q).1 hne (fun e => by cases e)).trans q⟩
/-- Package code's reader at c, its num.Reader at b: what it has left, and what is wrong. -/
structure RO (w : World) (B b c : Nat) (s : RSt) : Prop where
 rd : ∃ er1 er2 : Int, RdU w b s.1 er1 ∧ Bk w c 125 [.pointer (some ⟨b, 0, none⟩), .int .i64 er2] ∧ (er2 = 0 → s.2 = er1) ∧ (er2 ≠ 0 → s.2 = er2)
 byts : BytL s.1
 len : s.1.length ≤ 1000000000
 ne : b ≠ c
 low : B ≤ c
 low2 : B ≤ b
theorem RO.lt {w : World} {B b c : Nat} {s : RSt} (h : RO w B b c s) : b < w.heap.size ∧ c < w.heap.size := by obtain ⟨_, _, q, k, _⟩ := h.rd; exact ⟨q.at'.size, k.lt⟩
theorem RO.keep {w w' : World} {B b c : Nat} {s : RSt} (h : RO w B b c s) (hs : w.heap.size ≤ w'.heap.size) (hb : w'.heap[b]? = w.heap[b]?) (hc : w'.heap[c]? = w.heap[c]?) (hu : ∀ k, U8 w k → w'.heap[k]? = w.heap[k]?) : RO w' B b c s := by
 obtain ⟨e1, e2, q, k, r1, r2⟩ := h.rd
 exact ⟨⟨e1, e2, q.keep hs hb hu, hc.trans k, r1, r2⟩, h.byts, h.len, h.ne, h.low, h.low2⟩
theorem RO.below {w w' : World} {B b c : Nat} {s : RSt} (h : RO w B b c s) (hb : Below w.heap.size w w') : RO w' B b c s :=
 h.keep hb.size (hb.block b h.lt.1) (hb.block c h.lt.2) (fun k ⟨cs, fr, q⟩ => hb.block k (Array.getElem?_eq_some_iff.1 q).1)
theorem RO.grown {w w' : World} {B b c : Nat} {s : RSt} (h : RO w B b c s) {α : Type} {K : Knd Tryz.prog α} {base : Nat} {v : Value} {l : List α} (ho : K.Own w base v l) (hT : K.T ≠ 5) (hb : ∀ k, v.ownBlock = some k → k ≠ b ∧ k ≠ c) (hg : w.grownBy w' v.ownBlock) : RO w' B b c s :=
 h.keep hg.size (hg.block b h.lt.1 (fun e => (hb b e.symm).1 rfl)) (hg.block c h.lt.2 (fun e => (hb c e.symm).2 rfl)) (fun k ⟨cs, fr, q⟩ => hg.block k (Array.getElem?_eq_some_iff.1 q).1 (fun e => by
  obtain ⟨h1, cs2, fr2, h2⟩ := ho.blk k e.symm
  rw [h2] at q
  simp only [Option.some.injEq, Obj.cells.injEq] at q
  exact hT q.2.1))
def RP (v : Value) (B b c : Nat) (s : RSt) (w : World) (e : Ending) (w' : World) : Prop := Hid (e = .returned v) ∧ RO w' B b c s ∧ Ft B b c w w'
theorem rop_of {B b c : Nat} {w w' : World} {s : RSt} {xs : List Int} {er1 er : Int} (h : RO w B b c s) (h0 : RdU w b s.1 er1) (hk : Bk w c 125 [.pointer (some ⟨b, 0, none⟩), .int .i64 0]) (hF : Onl b w w') (h' : RdAt w' b xs er) (hx : BytL xs) (hl : xs.length ≤ s.1.length) : RO w' B b c (xs, er) ∧ Ft B b c w w' := by
 have hc : w'.heap[c]? = w.heap[c]? := hF.ft.block c h.lt.2 (Ne.symm h.ne) (fun e => by cases e)
 exact ⟨⟨⟨er, 0, h0.onl hF h', hc.trans hk, fun _ => rfl, fun q => absurd rfl q⟩, hx, Nat.le_trans hl h.len, h.ne, h.low, h.low2⟩, Ft.of_foot hF.ft h.low2 h.lt.1 (fun k hk => by cases hk)⟩
theorem gNum_ok {xs : List Int} : gNum (xs, 0) = ((numG 8 0 0 xs).1, (xs.drop (numG 8 0 0 xs).2.1.toNat, (numG 8 0 0 xs).2.2)) := by unfold gNum; rw [if_neg (by simp)]
theorem gNum_er {xs : List Int} {er : Int} (h : er ≠ 0) : gNum (xs, er) = (0, (xs, er)) := by unfold gNum; rw [if_pos h]
theorem gTxt_ok {xs : List Int} : gTxt (xs, 0) = (txt (textN 4096 xs).1, ((textN 4096 xs).2.1, (textN 4096 xs).2.2)) := by unfold gTxt; rw [if_neg (by simp)]
theorem gTxt_er {xs : List Int} {er : Int} (h : er ≠ 0) : gTxt (xs, er) = (⟨#[]⟩, (xs, er)) := by unfold gTxt; rw [if_pos h]
theorem textN_part (most : Int) (xs : List Int) : BytL xs → BytL (textN most xs).2.1 ∧ (textN most xs).2.1.length ≤ xs.length := by
 intro hb
 unfold textN
 split
 ·exact ⟨hb, Nat.le_refl _⟩
 split
 ·exact ⟨hb, Nat.le_refl _⟩
 split
 ·exact ⟨hb, Nat.le_refl _⟩
 exact ⟨hb.drop _, by simp⟩
theorem crnum (B b c : Nat) (n : Int) (s : RSt) (w : World) (h : RO w B b c s) :
  Calls Tryz.prog 140 #[.pointer (some ⟨c, 0, none⟩), .int .i64 n] w (RP (.int .i64 (gNum s).1) B b c (gNum s).2 w) := by
 obtain ⟨e1, e2, hr, hk, q1, q2⟩ := h.rd
 have HW := Hd h
 have HR := Hd hr
 have HK := Hd hk
 have c0 := hk.cell 0
 have c1 := hk.cell 1
 simp only [gB] at c0 c1
 obtain ⟨xs, er⟩ := s
 simp only at q1 q2 HR
 clear h hr hk
 by_cases z : e2 = 0
 ·subst z
  obtain rfl := q1 rfl
  clear q1 q2
  by_cases z1 : er = 0
  ·subst z1
   rw [gNum_ok]
   obtain ⟨N, hN⟩ : ∃ N, numG 8 0 0 xs = N := ⟨_, rfl⟩
   have HX : Hid (∀ x ∈ xs, 0 ≤ x ∧ x ≤ 255) := Hd HW.out.byts
   have HN := Hd hN
   rw [hN]
   clear hN
   go_enter Tryz.func140, Tryz.ntmps140
   go_wp2_with fail
   refine (rnum_any b xs _ HR.out.at' HX.out).mono ?_
   rw [HN.out]
   rintro e w1 ⟨rfl, h1, h2⟩
   have H := Hd (rop_of HW.out HR.out HK.out h2 h1 (BytL.drop HX.out _) (by simp))
   clear h1 h2
   go_wp2_with fail
   go_ret
   exact ⟨rfl, H.out.1, H.out.2⟩
  ·rw [gNum_er z1]
   go_enter Tryz.func140, Tryz.ntmps140
   go_wp2_with fail
   refine (rnum_wrong b xs er _ HR.out.at' z1).mono ?_
   rintro e w1 ⟨rfl, rfl⟩
   go_wp2_with fail
   go_ret
   exact ⟨rfl, HW.out, Ft.refl _ _ _ _⟩
 ·obtain rfl := q2 z
  rw [gNum_er z]
  have q : (er == 0) = false := by simpa using z
  have q' : (er != 0) = true := by simpa using z
  clear q1 q2
  go_enter Tryz.func140, Tryz.ntmps140
  go_wp2_with fail
  go_ret
  exact ⟨rfl, HW.out, Ft.refl _ _ _ _⟩
theorem crtext (B b c : Nat) (t : ByteArray) (s : RSt) (w : World) (h : RO w B b c s) :
  Calls Tryz.prog 141 #[.pointer (some ⟨c, 0, none⟩), .string t] w (RP (.string (gTxt s).1) B b c (gTxt s).2 w) := by
 obtain ⟨e1, e2, hr, hk, q1, q2⟩ := h.rd
 have HW := Hd h
 have HR := Hd hr
 have HK := Hd hk
 have c0 := hk.cell 0
 have c1 := hk.cell 1
 simp only [gB] at c0 c1
 obtain ⟨xs, er⟩ := s
 simp only at q1 q2 HR
 clear h hr hk
 by_cases z : e2 = 0
 ·subst z
  obtain rfl := q1 rfl
  clear q1 q2
  by_cases z1 : er = 0
  ·subst z1
   rw [gTxt_ok]
   have HX : Hid (∀ x ∈ xs, 0 ≤ x ∧ x ≤ 255) := Hd HW.out.byts
   have HP := Hd (textN_part 4096 xs HX.out)
   have HL : Hid (xs.length ≤ 1000000000) := Hd HW.out.len
   obtain ⟨N, hN⟩ : ∃ N, textN 4096 xs = N := ⟨_, rfl⟩
   have HN := Hd hN
   rw [hN] at HP ⊢
   clear hN
   go_enter Tryz.func141, Tryz.ntmps141
   go_wp2_with fail
   refine (rtext_any b 4096 xs _ HR.out.at' HX.out HL.out).mono ?_
   rw [HN.out]
   rintro e w1 ⟨rfl, h1, h2⟩
   have H := Hd (rop_of HW.out HR.out HK.out h2 h1 HP.out.1 HP.out.2)
   clear h1 h2
   go_wp2_with fail
   go_ret
   exact ⟨rfl, H.out.1, H.out.2⟩
  ·rw [gTxt_er z1]
   go_enter Tryz.func141, Tryz.ntmps141
   go_wp2_with fail
   refine (rtext_wrong b 4096 xs er _ HR.out.at' z1).mono ?_
   rintro e w1 ⟨rfl, rfl⟩
   go_wp2_with fail
   go_ret
   exact ⟨rfl, HW.out, Ft.refl _ _ _ _⟩
 ·obtain rfl := q2 z
  rw [gTxt_er z]
  have q : (er == 0) = false := by simpa using z
  have q' : (er != 0) = true := by simpa using z
  clear q1 q2
  go_enter Tryz.func141, Tryz.ntmps141
  go_wp2_with fail
  go_ret
  exact ⟨rfl, HW.out, Ft.refl _ _ _ _⟩
theorem gNum_pos (s : RSt) : 0 ≤ (gNum s).1 := by
 unfold gNum
 split
 ·exact Int.le_refl _
 ·exact numG_pos 8 0 0 s.1 (Int.le_refl _)
theorem crcount (B b c : Nat) (n : Int) (s : RSt) (w : World) (h : RO w B b c s) :
  Calls Tryz.prog 139 #[.pointer (some ⟨c, 0, none⟩), .int .i64 n] w (RP (.int .i64 (gCnt s).1) B b c (gCnt s).2 w) := by
 have HW := Hd h
 clear h
 have hp := gNum_pos s
 obtain ⟨G, hG⟩ : ∃ G, gNum s = G := ⟨_, rfl⟩
 have HG := Hd hG
 rw [hG] at hp
 obtain ⟨m, s1⟩ := G
 simp only at hp
 clear hG
 by_cases q : 1024 < m
 ·have e : gCnt s = (0, (s1.1, 13)) := by unfold gCnt; rw [HG.out, if_pos q]
  rw [e]
  clear e
  go_enter Tryz.func139, Tryz.ntmps139
  go_wp2_with fail
  refine (crnum B b c 0 s _ HW.out).mono ?_
  rw [HG.out]
  rintro e w1 ⟨he, h1, h2⟩
  rw [he.out]
  clear he
  have H1 := Hd h1
  have H2 := Hd h2
  obtain ⟨e1, e2, hr, hk, q1, q2⟩ := h1.rd
  have HR := Hd hr
  have HK := Hd hk
  have c1 := hk.cell 1
  have f1 := hk.fz 1
  have hlc := hk.lt
  have HE : Hid (e2 = 0 ∨ e2 ≠ 0) := Hd (by omega)
  simp only [gB] at c1
  clear h1 h2 hr hk q1 q2
  go_wp2_with fail
  go_ret
  have hne := H1.out.ne
  refine ⟨rfl, ⟨⟨e1, 13, HR.out.keep (by simp) (Below.heap_setCell _ _ _ _ hne) (fun k hk => Below.heap_setCell _ _ _ _ (fun e => bk_u8 HK.out (by decide) (by have e' : k = c := e; rw [← e']; exact hk))), HK.out.set 1 _, (fun z => absurd z (by decide)), (fun _ => rfl)⟩, H1.out.byts, H1.out.len, hne, H1.out.low, H1.out.low2⟩, H2.out.setC H1.out.low 1 _⟩
 ·have e : gCnt s = (m.toNat, s1) := by unfold gCnt; rw [HG.out, if_neg q]
  have hm : ((m.toNat : Nat) : Int) = m := by omega
  rw [e]
  simp only [hm]
  clear e hm
  go_enter Tryz.func139, Tryz.ntmps139
  go_wp2_with fail
  refine (crnum B b c 0 s _ HW.out).mono ?_
  rw [HG.out]
  rintro e w1 ⟨he, h1, h2⟩
  rw [he.out]
  clear he
  have H1 := Hd h1
  have H2 := Hd h2
  clear h1 h2
  go_wp2_with fail
  go_ret
  exact ⟨rfl, H1.out, H2.out⟩
/-- What is wrong in the end. -/
def endE (s : RSt) : Int := if s.2 = 0 ∧ 0 < s.1.length then 11 else s.2
theorem crend (B b c : Nat) (s : RSt) (w : World) (h : RO w B b c s) :
  Calls Tryz.prog 59 #[.pointer (some ⟨c, 0, none⟩)] w fun e w' => e = .returned (.int .i64 (endE s)) ∧ w = w' := by
 obtain ⟨e1, e2, hr, hk, q1, q2⟩ := h.rd
 have HR := Hd hr
 have c0 := hk.cell 0
 have c1 := hk.cell 1
 simp only [gB] at c0 c1
 obtain ⟨xs, er⟩ := s
 simp only at q1 q2 HR
 clear h hr hk
 by_cases z : e2 = 0
 ·subst z
  obtain rfl := q1 rfl
  clear q1 q2
  have e : endE (xs, er) = endN xs er := rfl
  rw [e]
  go_enter Tryz.func59, Tryz.ntmps59
  go_wp2_with fail
  refine (end_any b xs er _ HR.out.at').mono ?_
  rintro e w1 ⟨rfl, rfl⟩
  go_wp2_with fail
  go_ret
  exact ⟨rfl, rfl⟩
 ·obtain rfl := q2 z
  have e : endE (xs, er) = er := by unfold endE; rw [if_neg (fun q => z q.1)]
  rw [e]
  have q : (er == 0) = false := by simpa using z
  have q' : (er != 0) = true := by simpa using z
  clear q1 q2 e
  go_enter Tryz.func59, Tryz.ntmps59
  go_wp2_with fail
  go_ret
  exact ⟨rfl, rfl⟩
end Go.Proofs.YtnancdbkmompdaaGreat
namespace Go.Proofs.YtnancdbkmompdaaGreat
set_option linter.unusedSimpArgs false
set_option linter.unusedVariables false
set_option maxRecDepth 100000
set_option maxHeartbeats 40000000
abbrev Id3 := Int × Int × Int
abbrev Bal := Int × Int
abbrev Cmd8 := Int × Int × Int × ByteArray × ByteArray × Int × Int × Int
abbrev Att := Int × List Id3
abbrev Ins := Int × Bal × Bal × Cmd8 × Att
abbrev Ent := ByteArray × ByteArray × Int
abbrev Rpl := Int × ByteArray × Int × List ByteArray
abbrev Ses := Int × Int × Rpl
abbrev Cfg := Int × List Int
abbrev Snp := Cfg × List Ent × List Ses
def idC : Cod Id3 := pairC numC (pairC numC numC)
def balC : Cod Bal := pairC numC numC
def cmC : Cod Cmd8 := pairC numC (pairC numC (pairC numC (pairC txtC (pairC txtC (pairC numC (pairC numC numC))))))
def enC : Cod Ent := pairC txtC (pairC txtC numC)
def atC : Cod Att := pairC numC (listC idC)
def inC : Cod Ins := pairC numC (pairC balC (pairC balC (pairC cmC atC)))
def rpC : Cod Rpl := pairC numC (pairC txtC (pairC numC (listC txtC)))
def cfC : Cod Cfg := pairC numC (listC numC)
def seC : Cod Ses := pairC numC (pairC numC rpC)
def snC : Cod Snp := pairC cfC (pairC (listC enC) (listC seC))
theorem numC_rd (s : RSt) : numC.rd s = gNum s := rfl
theorem txtC_rd (s : RSt) : txtC.rd s = gTxt s := rfl
theorem pairC_rd {α β : Type} (A : Cod α) (B : Cod β) (s : RSt) : (pairC A B).rd s = (((A.rd s).1, (B.rd (A.rd s).2).1), (B.rd (A.rd s).2).2) := rfl
theorem listC_rd {α : Type} (A : Cod α) (s : RSt) : (listC A).rd s = gList A.rd (gCnt s).1 (gCnt s).2 := rfl
theorem numC_fs (n : Int) : numC.fs n = [.num n] := rfl
theorem txtC_fs (n : ByteArray) : txtC.fs n = [.txt n] := rfl
theorem pairC_fs {α β : Type} (A : Cod α) (B : Cod β) (x : α × β) : (pairC A B).fs x = A.fs x.1 ++ B.fs x.2 := rfl
theorem listC_fs {α : Type} (A : Cod α) (l : List α) : (listC A).fs l = .cnt l.length :: l.flatMap A.fs := rfl
theorem wrs_one (st : Option (List Int)) (f : Fd) : wrs st [f] = wr1 st f := rfl
end Go.Proofs.YtnancdbkmompdaaGreat
namespace Go.Proofs.YtnancdbkmompdaaGreat
open Go.RowKit
set_option linter.unusedSimpArgs false
set_option linter.unusedVariables false
set_option maxRecDepth 100000
set_option maxHeartbeats 40000000
abbrev fW (c : Nat) : Value := .iface 133 (.pointer (some ⟨c, 0, none⟩))
abbrev fR (c : Nat) : Value := .iface 121 (.pointer (some ⟨c, 0, none⟩))
theorem mwnum (c : Nat) (w : World) : (method 323 133 (.pointer (some ⟨c, 0, none⟩)) "syndic/code.num").run Tryz.prog w = .ok (148, .pointer (some ⟨c, 0, none⟩)) w := by kernel_rfl
theorem mwtext (c : Nat) (w : World) : (method 323 133 (.pointer (some ⟨c, 0, none⟩)) "syndic/code.text").run Tryz.prog w = .ok (150, .pointer (some ⟨c, 0, none⟩)) w := by kernel_rfl
theorem mwcount (c : Nat) (w : World) : (method 323 133 (.pointer (some ⟨c, 0, none⟩)) "syndic/code.count").run Tryz.prog w = .ok (147, .pointer (some ⟨c, 0, none⟩)) w := by kernel_rfl
theorem mrnum (c : Nat) (w : World) : (method 323 121 (.pointer (some ⟨c, 0, none⟩)) "syndic/code.num").run Tryz.prog w = .ok (140, .pointer (some ⟨c, 0, none⟩)) w := by kernel_rfl
theorem mrtext (c : Nat) (w : World) : (method 323 121 (.pointer (some ⟨c, 0, none⟩)) "syndic/code.text").run Tryz.prog w = .ok (141, .pointer (some ⟨c, 0, none⟩)) w := by kernel_rfl
theorem mrcount (c : Nat) (w : World) : (method 323 121 (.pointer (some ⟨c, 0, none⟩)) "syndic/code.count").run Tryz.prog w = .ok (139, .pointer (some ⟨c, 0, none⟩)) w := by kernel_rfl
/-- Cells from o on are written, one by one. -/
def setCs (w : World) (x : Nat) : Nat → List Value → World
 | _, [] => w
 | o, v :: vs => setCs (w.setCell ⟨x, o, none⟩ v) x (o + 1) vs
def setL : List Value → Nat → List Value → List Value
 | cs, _, [] => cs
 | cs, o, v :: vs => setL (cs.set o v) (o + 1) vs
/-- Block x alone is written. -/
structure Sx (x : Nat) (w w' : World) : Prop where
 os : w'.os = w.os
 tape : w'.tape = w.tape
 output : w'.output = w.output
 size : w'.heap.size = w.heap.size
 block : ∀ k, k ≠ x → w'.heap[k]? = w.heap[k]?
theorem setCs_sx (x : Nat) : ∀ (vs : List Value) (w : World) (o : Nat), Sx x w (setCs w x o vs)
 | [], w, o => ⟨rfl, rfl, rfl, rfl, fun _ _ => rfl⟩
 | v :: vs, w, o => by
  have h := setCs_sx x vs (w.setCell ⟨x, o, none⟩ v) (o + 1)
  exact ⟨h.os, h.tape, h.output, h.size.trans (by simp), fun k hk => (h.block k hk).trans (Below.heap_setCell _ _ _ _ hk)⟩
theorem setCs_bk (x : Nat) (T : TypeId) : ∀ (vs : List Value) (w : World) (o : Nat) (cs : List Value), Bk w x T cs → Bk (setCs w x o vs) x T (setL cs o vs)
 | [], w, o, cs, h => h
 | v :: vs, w, o, cs, h => setCs_bk x T vs _ _ _ (h.set o v)
theorem Bk.sx {w w' : World} {x k : Nat} {T : TypeId} {cs : List Value} (h : Bk w k T cs) (s : Sx x w w') (hk : k ≠ x) : Bk w' k T cs := (s.block k hk).trans h
theorem Ft.sx {B b c x : Nat} {w w1 w2 : World} (h : Ft B b c w w1) (s : Sx x w1 w2) (hx : w.heap.size ≤ x) (hB : B ≤ x) : Ft B b c w w2 :=
 ⟨h.low.trans ⟨s.os, s.tape, s.output, by rw [s.size]; exact Nat.le_refl _, fun k hk => s.block k (by omega)⟩, fun k h1 h2 h3 h4 => (s.block k (by omega)).trans (h.keep k h1 h2 h3 h4)⟩
theorem WO.sx {B b c x : Nat} {w w' : World} {st : Option (List Int)} (h : WO w B b c st) (s : Sx x w w') {T : TypeId} {cs : List Value} (hk : Bk w x T cs) (hT : T ≠ 5) (hb : x ≠ b) (hc : x ≠ c) : WO w' B b c st :=
 h.keep (by rw [s.size]; exact Nat.le_refl _) (s.block _ (Ne.symm hb)) (s.block _ (Ne.symm hc)) (fun k hu => s.block k (fun e => bk_u8 hk hT (e ▸ hu)))
theorem RO.sx {B b c x : Nat} {w w' : World} {s0 : RSt} (h : RO w B b c s0) (s : Sx x w w') {T : TypeId} {cs : List Value} (hk : Bk w x T cs) (hT : T ≠ 5) (hb : x ≠ b) (hc : x ≠ c) : RO w' B b c s0 :=
 h.keep (by rw [s.size]; exact Nat.le_refl _) (s.block _ (Ne.symm hb)) (s.block _ (Ne.symm hc)) (fun k hu => s.block k (fun e => bk_u8 hk hT (e ▸ hu)))
/-- A walk of a struct: its box at x, the result's box behind it. -/
structure StB (w0 w : World) (B b c x : Nat) (T : TypeId) (cs zs : List Value) : Prop where
 x0 : w0.heap.size = x
 hb : b < x
 hc : c < x
 hB : B ≤ x
 hT : T ≠ 5
 bx : Bk w x T cs
 rs : Bk w (x + 1) T zs
 ft : Ft B b c w0 w
structure StW (w0 w : World) (B b c x : Nat) (T : TypeId) (cs zs : List Value) (st : Option (List Int)) : Prop extends StB w0 w B b c x T cs zs where
 ob : WO w B b c st
structure StR (w0 w : World) (B b c x : Nat) (T : TypeId) (cs zs : List Value) (st : RSt) : Prop extends StB w0 w B b c x T cs zs where
 ob : RO w B b c st
theorem two_boxes (w : World) (T : TypeId) (cs zs : List Value) : Bk ((w.alloc (.cells cs.toArray T)).alloc (.cells zs.toArray T)) w.heap.size T cs ∧ Bk ((w.alloc (.cells cs.toArray T)).alloc (.cells zs.toArray T)) (w.heap.size + 1) T zs := by
 refine ⟨(Bk.new w T cs).old _, ?_⟩
 have := Bk.new (w.alloc (.cells cs.toArray T)) T zs
 rwa [World.size_alloc] at this
theorem StW.start {w : World} {B b c : Nat} {st : Option (List Int)} (h : WO w B b c st) (T : TypeId) (hT : T ≠ 5) (cs zs : List Value) : StW w ((w.alloc (.cells cs.toArray T)).alloc (.cells zs.toArray T)) B b c w.heap.size T cs zs st :=
 ⟨⟨rfl, h.lb.1, h.bx.lt, by have := h.lb; omega, hT, (two_boxes w T cs zs).1, (two_boxes w T cs zs).2, ((Ft.refl _ _ _ _).alloc (by have := h.lb; omega) _).alloc (by have := h.lb; simp; omega) _⟩, h.below (((Below.refl _ _).alloc (Nat.le_refl _) _).alloc (by simp) _)⟩
theorem StR.start {w : World} {B b c : Nat} {s : RSt} (h : RO w B b c s) (T : TypeId) (hT : T ≠ 5) (cs zs : List Value) : StR w ((w.alloc (.cells cs.toArray T)).alloc (.cells zs.toArray T)) B b c w.heap.size T cs zs s :=
 ⟨⟨rfl, h.lt.1, h.lt.2, by have := h.lt; have := h.low; omega, hT, (two_boxes w T cs zs).1, (two_boxes w T cs zs).2, ((Ft.refl _ _ _ _).alloc (by have := h.lt; have := h.low; omega) _).alloc (by have := h.lt; have := h.low; simp; omega) _⟩, h.below (((Below.refl _ _).alloc (Nat.le_refl _) _).alloc (by simp) _)⟩
theorem StB.call {w0 w w1 : World} {B b c x : Nat} {T : TypeId} {cs zs : List Value} (h : StB w0 w B b c x T cs zs) (h2 : Ft B b c w w1) : StB w0 w1 B b c x T cs zs :=
 ⟨h.x0, h.hb, h.hc, h.hB, h.hT, h.bx.ft h2 (by have := h.hb; omega) (by have := h.hc; omega) h.hT, h.rs.ft h2 (by have := h.hb; omega) (by have := h.hc; omega) h.hT, h.ft.trans h2⟩
theorem StW.call {w0 w w1 : World} {B b c x : Nat} {T : TypeId} {cs zs : List Value} {st st' : Option (List Int)} (h : StW w0 w B b c x T cs zs st) (h1 : WO w1 B b c st') (h2 : Ft B b c w w1) : StW w0 w1 B b c x T cs zs st' := ⟨h.toStB.call h2, h1⟩
theorem StR.call {w0 w w1 : World} {B b c x : Nat} {T : TypeId} {cs zs : List Value} {st st' : RSt} (h : StR w0 w B b c x T cs zs st) (h1 : RO w1 B b c st') (h2 : Ft B b c w w1) : StR w0 w1 B b c x T cs zs st' := ⟨h.toStB.call h2, h1⟩
theorem StB.store {w0 w : World} {B b c x : Nat} {T : TypeId} {cs zs : List Value} (h : StB w0 w B b c x T cs zs) (o : Nat) (vs : List Value) : StB w0 (setCs w x o vs) B b c x T (setL cs o vs) zs :=
 ⟨h.x0, h.hb, h.hc, h.hB, h.hT, setCs_bk x T vs w o cs h.bx, h.rs.sx (setCs_sx x vs w o) (by omega), h.ft.sx (setCs_sx x vs w o) (by have := h.x0; omega) h.hB⟩
theorem StW.store {w0 w : World} {B b c x : Nat} {T : TypeId} {cs zs : List Value} {st : Option (List Int)} (h : StW w0 w B b c x T cs zs st) (o : Nat) (vs : List Value) : StW w0 (setCs w x o vs) B b c x T (setL cs o vs) zs st :=
 ⟨h.toStB.store o vs, h.ob.sx (setCs_sx x vs w o) h.bx h.hT (by have := h.hb; omega) (by have := h.hc; omega)⟩
theorem StR.store {w0 w : World} {B b c x : Nat} {T : TypeId} {cs zs : List Value} {st : RSt} (h : StR w0 w B b c x T cs zs st) (o : Nat) (vs : List Value) : StR w0 (setCs w x o vs) B b c x T (setL cs o vs) zs st :=
 ⟨h.toStB.store o vs, h.ob.sx (setCs_sx x vs w o) h.bx h.hT (by have := h.hb; omega) (by have := h.hc; omega)⟩
/-- The result's box is written. -/
theorem StB.result {w0 w : World} {B b c x : Nat} {T : TypeId} {cs zs : List Value} (h : StB w0 w B b c x T cs zs) (vs : List Value) : Bk (setCs w (x + 1) 0 vs) (x + 1) T (setL zs 0 vs) ∧ Ft B b c w0 (setCs w (x + 1) 0 vs) :=
 ⟨setCs_bk (x + 1) T vs w 0 zs h.rs, h.ft.sx (setCs_sx (x + 1) vs w 0) (by have := h.x0; omega) (by have := h.hB; omega)⟩
theorem StW.result {w0 w : World} {B b c x : Nat} {T : TypeId} {cs zs : List Value} {st : Option (List Int)} (h : StW w0 w B b c x T cs zs st) (vs : List Value) : WO (setCs w (x + 1) 0 vs) B b c st :=
 h.ob.sx (setCs_sx (x + 1) vs w 0) h.rs h.hT (by have := h.hb; omega) (by have := h.hc; omega)
theorem StR.result {w0 w : World} {B b c x : Nat} {T : TypeId} {cs zs : List Value} {st : RSt} (h : StR w0 w B b c x T cs zs st) (vs : List Value) : RO (setCs w (x + 1) 0 vs) B b c st :=
 h.ob.sx (setCs_sx (x + 1) vs w 0) h.rs h.hT (by have := h.hb; omega) (by have := h.hc; omega)
/-- How much is written at most. -/
def Sh (K : Nat) (st : Option (List Int)) : Prop := (stl st).length ≤ 4104 * K
theorem Sh.none (K : Nat) : Sh K none := by simp [Sh, stl]
theorem Sh.le {K L : Nat} {st : Option (List Int)} (h : Sh K st) (hl : K ≤ L) : Sh L st := by unfold Sh at h ⊢; omega
theorem Sh.one {K : Nat} {st : Option (List Int)} (h : Sh K st) (f : Fd) : Sh (K + 1) (wr1 st f) := by
 by_cases q : f.ok
 ·cases st with
  | none => exact Sh.none _
  | some xs =>
   rw [wr1_ok rfl q]
   unfold Sh stl at h ⊢
   simp only [Option.getD_some, List.length_append] at h ⊢
   have : f.enc.length ≤ 4104 := by
    have h0 := f.enc_le
    cases f with
    | num n => have h1 : (Fd.num n).enc.length ≤ 8 := h0; omega
    | txt s => have h1 : (Fd.txt s).enc.length ≤ 8 + s.size := h0; have h2 : s.size ≤ 4096 := q; omega
    | cnt n => have h1 : (Fd.cnt n).enc.length ≤ 8 := h0; omega
   omega
 ·rw [wr1_bad q]; exact Sh.none _
theorem Sh.max {K : Nat} {st : Option (List Int)} (h : Sh K st) (hk : K ≤ 20000000) : (stl st).length ≤ 99999990000 := by unfold Sh at h; omega
end Go.Proofs.YtnancdbkmompdaaGreat
