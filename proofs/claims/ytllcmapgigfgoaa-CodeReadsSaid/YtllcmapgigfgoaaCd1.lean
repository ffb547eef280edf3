/-
  Package code: how its writer and its reader lie in memory, and what each call of theirs may write.
-/
import Derived.Test.YtllcmapgigfgoaaNf
import Derived.Test.YtllcmapgigfgoaaCdM
import Derived.Test.YtllcmapgigfgoaaRn9
import Derived.Test.YtllcmapgigfgoaaBk
import Derived.Laws.OwnMore
namespace Go.Proofs.Ytllcmapgigfgoaa
open Go.RowKit
set_option linter.unusedSimpArgs false
set_option linter.unusedVariables false

/-- A block of bytes. -/
def U8 (w : World) (k : Nat) : Prop := ∃ cs fr, w.heap[k]? = some (.cells cs 5 fr)
/-- Below B nothing is written; else only blocks b and c, rows of bytes, and new blocks. -/
structure Ft (B b c : Nat) (w w' : World) : Prop where
  low : Below B w w'
  keep : ∀ k, k < w.heap.size → k ≠ b → k ≠ c → ¬ U8 w k → w'.heap[k]? = w.heap[k]?
theorem Ft.size {B b c : Nat} {w w' : World} (h : Ft B b c w w') : w.heap.size ≤ w'.heap.size := h.low.size
theorem Ft.refl (B b c : Nat) (w : World) : Ft B b c w w := ⟨Below.refl _ _, fun _ _ _ _ _ => rfl⟩
theorem Ft.trans {B b c : Nat} {w w1 w2 : World} (h : Ft B b c w w1) (k : Ft B b c w1 w2) : Ft B b c w w2 :=
  ⟨h.low.trans k.low, fun j h1 h2 h3 h4 => by
    have e := h.keep j h1 h2 h3 h4
    exact (k.keep j (Nat.lt_of_lt_of_le h1 h.size) h2 h3 (fun q => h4 (by unfold U8 at q ⊢; rwa [e] at q))).trans e⟩
theorem Ft.alloc {B b c : Nat} {w w' : World} (h : Ft B b c w w') (hB : B ≤ w'.heap.size) (o : Obj) : Ft B b c w (w'.alloc o) :=
  ⟨h.low.alloc hB o, fun k h1 h2 h3 h4 => (Below.heap_alloc _ _ _ (by have := h.size; omega)).trans (h.keep k h1 h2 h3 h4)⟩
theorem Ft.drew {B b c : Nat} {w w' : World} (h : Ft B b c w w') : Ft B b c w w'.drew := ⟨h.low.drew, h.keep⟩
/-- A block that is new since w is written. -/
theorem Ft.setNew {B b c : Nat} {w w' : World} (h : Ft B b c w w') (p : Addr) (hp : w.heap.size ≤ p.block) (hB : B ≤ p.block) (u : Value) : Ft B b c w (w'.setCell p u) :=
  ⟨h.low.setCell hB u, fun k h1 h2 h3 h4 => (Below.heap_setCell _ _ _ _ (by omega)).trans (h.keep k h1 h2 h3 h4)⟩
theorem Ft.setC {B b c : Nat} {w w' : World} (h : Ft B b c w w') (hB : B ≤ c) (o : Nat) (u : Value) : Ft B b c w (w'.setCell ⟨c, o, none⟩ u) :=
  ⟨h.low.setCell hB u, fun k h1 h2 h3 h4 => (Below.heap_setCell _ _ _ _ (by show k ≠ c; omega)).trans (h.keep k h1 h2 h3 h4)⟩
theorem Ft.grown {B b c : Nat} {w w1 w2 : World} {v : Value} (h : Ft B b c w w1) (hg : w1.grownBy w2 v.ownBlock) (hv : ∀ k, v.ownBlock = some k → w.heap.size ≤ k ∧ B ≤ k) (hB : B ≤ w1.heap.size) : Ft B b c w w2 :=
  ⟨h.low.trans ((Below.refl B w1).grown hg hB (fun k hk => (hv k hk).2)), fun k h1 h2 h3 h4 => (hg.block k (Nat.lt_of_lt_of_le h1 h.size) (fun e => by have := (hv k e.symm).1; omega)).trans (h.keep k h1 h2 h3 h4)⟩
theorem Ft.of_below {B b c : Nat} {w w' : World} (h : Below w.heap.size w w') (hB : B ≤ w.heap.size) : Ft B b c w w' := ⟨h.mono hB, fun k h1 _ _ _ => h.block k h1⟩
theorem Ft.of_foot {B b c : Nat} {w w' : World} {v : Value} (h : Foot w w' b v) (hb : B ≤ b) (hlt : b < w.heap.size) (hv : ∀ k, v.ownBlock = some k → B ≤ k ∧ U8 w k) : Ft B b c w w' :=
  ⟨h.below hb (fun k e => (hv k e).1) (by omega), fun k h1 h2 _ h4 => h.block k h1 h2 (fun e => h4 (hv k e.symm).2)⟩
theorem bk_u8 {w : World} {k : Nat} {T : TypeId} {cs : List Value} (h : Bk w k T cs) (hT : T ≠ 5) : ¬ U8 w k := by
  rintro ⟨cs2, fr, q⟩
  have h' : w.heap[k]? = some (.cells cs.toArray T (0, 0)) := h
  rw [h'] at q
  simp only [Option.some.injEq, Obj.cells.injEq] at q
  exact hT q.2.1
theorem Bk.ft {B b c : Nat} {w w' : World} {k : Nat} {T : TypeId} {cs : List Value} (h : Bk w k T cs) (hF : Ft B b c w w') (hb : k ≠ b) (hc : k ≠ c) (hT : T ≠ 5) : Bk w' k T cs :=
  (hF.keep k h.lt hb hc (bk_u8 h hT)).trans h
/-- A row of one's own is kept. -/
theorem Knd.Own.ft {α : Type} {K : Knd Try.prog α} {B b c : Nat} {w w' : World} {base : Nat} {v : Value} {l : List α} (h : K.Own w base v l) (hF : Ft B b c w w') (hT : K.T ≠ 5) (hb : ∀ k, v.ownBlock = some k → k ≠ b ∧ k ≠ c) : K.Own w' base v l :=
  h.keepB fun k hk => by
    obtain ⟨h1, cs, fr, h2⟩ := h.blk k hk
    refine hF.keep k h1 (hb k hk).1 (hb k hk).2 ?_
    rintro ⟨cs2, fr2, q⟩
    rw [h2] at q
    simp only [Option.some.injEq, Obj.cells.injEq] at q
    exact hT q.2.1
def stl (st : Option (List Int)) : List Int := st.getD []
/-- Package code's writer at c, its num.Writer at b. -/
structure WO (w : World) (B b c : Nat) (st : Option (List Int)) : Prop where
  wr : ∃ v, WrV w B b v (stl st) st.isNone
  bx : Bk w c 120 [.pointer (some ⟨b, 0, none⟩)]
  ne : b ≠ c
  low : B ≤ c
theorem WO.lb {w : World} {B b c : Nat} {st : Option (List Int)} (h : WO w B b c st) : b < w.heap.size ∧ B ≤ b := by obtain ⟨v, q⟩ := h.wr; exact ⟨q.lt, q.low⟩
/-- It stays where its blocks do, and rows of bytes. -/
theorem WO.keep {w w' : World} {B b c : Nat} {st : Option (List Int)} (h : WO w B b c st) (hs : w.heap.size ≤ w'.heap.size) (hb : w'.heap[b]? = w.heap[b]?) (hc : w'.heap[c]? = w.heap[c]?) (hu : ∀ k, U8 w k → w'.heap[k]? = w.heap[k]?) : WO w' B b c st := by
  obtain ⟨v, q⟩ := h.wr
  exact ⟨⟨v, q.keep hs hb (fun k hk => hu k (q.own.blk k hk))⟩, hc.trans h.bx, h.ne, h.low⟩
theorem WO.below {w w' : World} {B b c : Nat} {st : Option (List Int)} (h : WO w B b c st) (hb : Below w.heap.size w w') : WO w' B b c st :=
  h.keep hb.size (hb.block b h.lb.1) (hb.block c h.bx.lt) (fun k ⟨cs, fr, q⟩ => hb.block k (Array.getElem?_eq_some_iff.1 q).1)
theorem WO.set {w : World} {B b c : Nat} {st : Option (List Int)} (h : WO w B b c st) {k : Nat} {T : TypeId} {cs : List Value} (hk : Bk w k T cs) (hT : T ≠ 5) (hb : k ≠ b) (hc : k ≠ c) (o : Nat) (u : Value) : WO (w.setCell ⟨k, o, none⟩ u) B b c st :=
  h.keep (by simp) (Below.heap_setCell _ _ _ _ (Ne.symm hb)) (Below.heap_setCell _ _ _ _ (Ne.symm hc)) (fun j hj => Below.heap_setCell _ _ _ _ (fun e => bk_u8 hk hT (by have e' : j = k := e; rw [← e']; exact hj)))
theorem WO.grown {w w' : World} {B b c : Nat} {st : Option (List Int)} (h : WO w B b c st) {α : Type} {K : Knd Try.prog α} {base : Nat} {v : Value} {l : List α} (ho : K.Own w base v l) (hT : K.T ≠ 5) (hb : ∀ k, v.ownBlock = some k → k ≠ b ∧ k ≠ c) (hg : w.grownBy w' v.ownBlock) : WO w' B b c st :=
  h.keep hg.size (hg.block b h.lb.1 (fun e => (hb b e.symm).1 rfl)) (hg.block c h.bx.lt (fun e => (hb c e.symm).2 rfl)) (fun k ⟨cs, fr, q⟩ => hg.block k (Array.getElem?_eq_some_iff.1 q).1 (fun e => by
    obtain ⟨h1, cs2, fr2, h2⟩ := ho.blk k e.symm
    rw [h2] at q
    simp only [Option.some.injEq, Obj.cells.injEq] at q
    exact hT q.2.1))
/-- What a call of the writer answers, and leaves. -/
def WP (v : Value) (B b c : Nat) (st : Option (List Int)) (w : World) (e : Ending) (w' : World) : Prop := Hid (e = .returned v) ∧ WO w' B b c st ∧ Ft B b c w w'
theorem wop_of {B b c : Nat} {v0 : Value} {xs : List Int} {sp : Bool} {w w' : World} {st st' : Option (List Int)} (h : WO w B b c st) (hv : WrV w B b v0 xs sp) (hF : Foot w w' b v0) (hx : ∃ v', WrV w' B b v' (stl st') st'.isNone) : WO w' B b c st' ∧ Ft B b c w w' := by
  have hc : w'.heap[c]? = w.heap[c]? := hF.block c h.bx.lt (Ne.symm h.ne) (fun e => by
    have := bk_u8 h.bx (by decide)
    exact this (hv.own.blk c e.symm))
  exact ⟨⟨hx, hc.trans h.bx, h.ne, h.low⟩, Ft.of_foot hF hv.low hv.lt (fun k hk => ⟨own8_from hv.own k hk, hv.own.blk k hk⟩)⟩
theorem wr1_ok {st : Option (List Int)} {xs : List Int} (h : st = some xs) {f : Fd} (hf : f.ok) : wr1 st f = some (xs ++ f.enc) := by subst h; simp [wr1, hf]
theorem wr1_bad {st : Option (List Int)} {f : Fd} (hf : ¬ f.ok) : wr1 st f = none := by cases st <;> simp [wr1, hf]
/-- num.Writer's Num, whatever it was. -/
theorem onum (B b c : Nat) (n : Int) (st : Option (List Int)) (w : World) (h : WO w B b c st) (hl : (stl st).length ≤ 99999990000) :
    Calls Try.prog 110 #[.pointer (some ⟨b, 0, none⟩), .int .i64 n] w (WP (.pointer (some ⟨b, 0, none⟩)) B b c (wr1 st (.num n)) w) := by
  obtain ⟨v0, q⟩ := h.wr
  cases st with
  | none =>
    refine (vnum_spoilt B b n v0 w q).mono ?_
    rintro e w' ⟨he, v', h1, h2, h3⟩
    exact ⟨he, wop_of h q h2 ⟨v', h1⟩⟩
  | some xs =>
    by_cases hn : okN n
    · refine (vnum_good B b n v0 xs w q hn.1 hn.2 (by simp [stl] at hl; omega)).mono ?_
      rintro e w' ⟨he, v', h1, h2, h3⟩
      refine ⟨he, wop_of h q h2 ?_⟩
      rw [wr1_ok rfl (show (Fd.num n).ok from hn)]
      exact ⟨v', h1⟩
    · refine (vnum_bad B b n v0 xs _ w q hn).mono ?_
      rintro e w' ⟨he, v', h1, h2, h3⟩
      refine ⟨he, wop_of h q h2 ?_⟩
      rw [wr1_bad (show ¬ (Fd.num n).ok from hn)]
      exact ⟨v', h1⟩
theorem otext (B b c : Nat) (s : ByteArray) (st : Option (List Int)) (w : World) (h : WO w B b c st) (hl : (stl st).length ≤ 99999990000) (hs : s.size ≤ 4096) :
    Calls Try.prog 111 #[.pointer (some ⟨b, 0, none⟩), .string s] w (WP (.pointer (some ⟨b, 0, none⟩)) B b c (wr1 st (.txt s)) w) := by
  obtain ⟨v0, q⟩ := h.wr
  cases st with
  | none =>
    refine (vtext_spoilt B b s v0 w q).mono ?_
    rintro e w' ⟨he, v', h1, h2, h3⟩
    exact ⟨he, wop_of h q h2 ⟨v', h1⟩⟩
  | some xs =>
    refine (vtext_good B b s v0 xs w q (by simp [stl] at hl; omega) (by omega)).mono ?_
    rintro e w' ⟨he, v', h1, h2, h3⟩
    refine ⟨he, wop_of h q h2 ?_⟩
    rw [wr1_ok rfl (show (Fd.txt s).ok from hs)]
    exact ⟨v', h1⟩
theorem cwnum (B b c : Nat) (n : Int) (st : Option (List Int)) (w : World) (h : WO w B b c st) (hl : (stl st).length ≤ 99999990000) :
    Calls Try.prog 107 #[.pointer (some ⟨c, 0, none⟩), .int .i64 n] w (WP (.int .i64 n) B b c (wr1 st (.num n)) w) := by
  have HW := Lib.hid h
  have c0 := h.bx.cell 0
  simp only [List.getElem?_cons_zero] at c0
  clear h
  go_enter Try.func107, Try.ntmps107
  go_wp2_with fail
  refine (onum B b c n st _ HW.out hl).mono ?_
  rintro e w1 ⟨he, h1, h2⟩
  rw [he.out]
  clear he
  have H1 := Lib.hid h1
  have H2 := Lib.hid h2
  clear h1 h2
  go_wp2_with fail
  go_ret
  exact ⟨rfl, H1.out, H2.out⟩
theorem cwspoil (B b c : Nat) (f : Fd) (hf : ¬ f.ok) (st : Option (List Int)) (w : World) (h : WO w B b c st) (hl : (stl st).length ≤ 99999990000) :
    Calls Try.prog 108 #[.pointer (some ⟨c, 0, none⟩)] w (WP (.tuple #[]) B b c (wr1 st f) w) := by
  have HW := Lib.hid h
  have c0 := h.bx.cell 0
  simp only [List.getElem?_cons_zero] at c0
  clear h
  have HE : Hid (wr1 st (.num (-1)) = wr1 st f) := Lib.hid (by rw [wr1_bad hf, wr1_bad (show ¬ (Fd.num (-1)).ok from fun h => by have := h.1; omega)])
  go_enter Try.func108, Try.ntmps108
  go_wp2_with fail
  refine (onum B b c (-1) st _ HW.out hl).mono ?_
  rw [HE.out]
  rintro e w1 ⟨he, h1, h2⟩
  rw [he.out]
  clear he
  have H1 := Lib.hid h1
  have H2 := Lib.hid h2
  clear h1 h2
  go_wp2_with fail
  go_end0
  exact ⟨rfl, H1.out, H2.out⟩
theorem cwtext (B b c : Nat) (s : ByteArray) (st : Option (List Int)) (w : World) (h : WO w B b c st) (hl : (stl st).length ≤ 99999990000) (hs : s.size ≤ 9223372036854775807) :
    Calls Try.prog 109 #[.pointer (some ⟨c, 0, none⟩), .string s] w (WP (.string s) B b c (wr1 st (.txt s)) w) := by
  have HW := Lib.hid h
  have c0 := h.bx.cell 0
  simp only [List.getElem?_cons_zero] at c0
  clear h
  by_cases q : s.size ≤ 4096
  · have q1 : decide ((4096 : Int) < s.size) = false := by simp; omega
    go_enter Try.func109, Try.ntmps109
    go_wp2_with fail
    refine (otext B b c s st _ HW.out hl q).mono ?_
    rintro e w1 ⟨he, h1, h2⟩
    rw [he.out]
    clear he
    have H1 := Lib.hid h1
    have H2 := Lib.hid h2
    clear h1 h2
    go_wp2_with fail
    go_ret
    exact ⟨rfl, H1.out, H2.out⟩
  · have q1 : decide ((4096 : Int) < s.size) = true := by simp; omega
    go_enter Try.func109, Try.ntmps109
    go_wp2_with fail
    refine (cwspoil B b c (.txt s) q st _ HW.out hl).mono ?_
    rintro e w1 ⟨he, h1, h2⟩
    rw [he.out]
    clear he
    have H1 := Lib.hid h1
    have H2 := Lib.hid h2
    clear h1 h2
    go_wp2_with fail
    go_ret
    exact ⟨rfl, H1.out, H2.out⟩
theorem cwcount (B b c : Nat) (n : Nat) (st : Option (List Int)) (w : World) (h : WO w B b c st) (hl : (stl st).length ≤ 99999990000) (hn : n ≤ 9223372036854775807) :
    Calls Try.prog 106 #[.pointer (some ⟨c, 0, none⟩), .int .i64 n] w (WP (.int .i64 (if n ≤ 1024 then n else 0 : Nat)) B b c (wr1 st (.cnt n)) w) := by
  have HW := Lib.hid h
  have c0 := h.bx.cell 0
  simp only [List.getElem?_cons_zero] at c0
  clear h
  by_cases q : n ≤ 1024
  · rw [if_pos q]
    have HE : Hid (wr1 st (.num n) = wr1 st (.cnt n)) := Lib.hid (by
      have hk : (Fd.num (n : Int)).ok := ⟨by omega, by omega⟩
      cases st with
      | none => rfl
      | some xs => rw [wr1_ok rfl hk, wr1_ok rfl (show (Fd.cnt n).ok from q)]; rfl)
    have q1 : ¬ (1024 : Int) < n := by omega
    go_enter Try.func106, Try.ntmps106
    go_wp2_with fail
    refine (cwnum B b c n st _ HW.out hl).mono ?_
    rw [HE.out]
    rintro e w1 ⟨he, h1, h2⟩
    rw [he.out]
    clear he
    have H1 := Lib.hid h1
    have H2 := Lib.hid h2
    clear h1 h2
    go_wp2_with fail
    go_ret
    exact ⟨rfl, H1.out, H2.out⟩
  · rw [if_neg q]
    have q1 : (1024 : Int) < n := by omega
    go_enter Try.func106, Try.ntmps106
    go_wp2_with fail
    refine (cwspoil B b c (.cnt n) q st _ HW.out hl).mono ?_
    rintro e w1 ⟨he, h1, h2⟩
    rw [he.out]
    clear he
    have H1 := Lib.hid h1
    have H2 := Lib.hid h2
    clear h1 h2
    go_wp2_with fail
    go_ret
    exact ⟨rfl, H1.out, H2.out⟩
end Go.Proofs.Ytllcmapgigfgoaa
