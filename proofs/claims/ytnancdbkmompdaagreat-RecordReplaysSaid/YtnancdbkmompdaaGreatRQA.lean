/-
  Texts put together: NumM, Byt, Num, Num2, Arr, App, Ft.
-/
import Derived.Test.YtnancdbkmompdaaGreatRY
import Derived.Test.YtnancdbkmompdaaGreatRows
import Derived.WalkKit
import Derived.WalkSpells
import Derived.WalkLawsBesides
import Derived.StillTactics
import Derived.Laws.Pointers
import Derived.LoopTactic
import Derived.Deep.QuietTactic
import Derived.BigQuiet
import Derived.Lib.Hide
import Derived.Outline
import Derived.Laws.AppendOwnNone
import Derived.Lib.AppendStr
import Derived.Laws.IdiomStrings
import Derived.Laws.Rows
import Derived.Laws.Tables
import Derived.Deep.WholeRow
import Derived.Laws.BitsAllLaws
import Derived.Laws.MakeOwn
namespace Go.Proofs.YtnancdbkmompdaaGreat
set_option linter.unusedSimpArgs false
set_option linter.unusedVariables false
set_option maxRecDepth 100000
set_option maxHeartbeats 40000000
def geN (m k : Int) : Int := if k ≤ m then 1 else 0
/-- How many digits are left of a number that may be 0. -/
def remN (m : Int) : Int := geN m 1 + geN m 128 + geN m 16384 + geN m 2097152 + geN m 268435456 + geN m 34359738368 + geN m 4398046511104
/-- How many bytes a number is; 0 of one that can't be written. -/
def sizeN (n : Int) : Int := if 0 ≤ n ∧ n ≤ 281474976710656 then 1 + remN (n / 128) else 0
theorem geN_div (m k j : Int) (h : 1 ≤ k) (hj : j = k * 128) : geN (m / 128) k = geN m j := by
 subst hj
 unfold geN
 by_cases g : k ≤ m / 128
 ·rw [if_pos g, if_pos (by omega)]
 ·rw [if_neg g, if_neg (by omega)]
theorem remN_div (m : Int) (h : 1 ≤ m) (h2 : m < 562949953421312) : remN m = 1 + remN (m / 128) := by
 unfold remN
 rw [geN_div m 1 128 (by omega) (by omega), geN_div m 128 16384 (by omega) (by omega), geN_div m 16384 2097152 (by omega) (by omega), geN_div m 2097152 268435456 (by omega) (by omega), geN_div m 268435456 34359738368 (by omega) (by omega), geN_div m 34359738368 4398046511104 (by omega) (by omega), geN_div m 4398046511104 562949953421312 (by omega) (by omega)]
 have a : geN m 1 = 1 := by unfold geN; rw [if_pos h]
 have b : geN m 562949953421312 = 0 := by unfold geN; rw [if_neg (by omega)]
 rw [a, b]
 omega
theorem remN_zero (m : Int) (h : m ≤ 0) : remN m = 0 := by
 unfold remN geN
 rw [if_neg (by omega), if_neg (by omega), if_neg (by omega), if_neg (by omega), if_neg (by omega), if_neg (by omega), if_neg (by omega)]
 rfl
theorem remN_range (m : Int) : 0 ≤ remN m ∧ remN m ≤ 7 := by
 unfold remN geN
 repeat' split
 all_goals omega
theorem sizeN_range (n : Int) : 0 ≤ sizeN n ∧ sizeN n ≤ 8 := by
 unfold sizeN
 have := remN_range (n / 128)
 split <;> omega
/-- A number's bytes, the lowest digit first. -/
def encN : Nat → Int → List Int
 | 0, _ => []
 | f + 1, m => if m < 128 then [m] else (m % 128 + 128) :: encN f (m / 128)
def enc (m : Int) : List Int := encN 8 m
theorem encN_succ (f : Nat) (m : Int) : encN (f + 1) m = if m < 128 then [m] else (m % 128 + 128) :: encN f (m / 128) := rfl
theorem encN_more (f : Nat) : ∀ m : Int, m < 128 ^ (f + 1) → encN (f + 1) m = encN (f + 2) m := by
  induction f with
  | zero => intro m h; have : m < 128 := by simpa using h
            simp [encN, this]
  | succ f ih =>
    intro m h
    by_cases g : m < 128
    · simp [encN, g]
    · have h2 : m / 128 < 128 ^ (f + 1) := by
        rw [Int.pow_succ] at h
        omega
      rw [encN_succ (f + 1) m, encN_succ (f + 2) m, if_neg g, if_neg g, ih _ h2]
theorem enc_small (m : Int) (h : m < 128) : enc m = [m] := by unfold enc; rw [encN_succ, if_pos h]
theorem enc_step (m : Int) (h : 128 ≤ m) (h2 : m < 72057594037927936) : enc m = (m % 128 + 128) :: enc (m / 128) := by
 unfold enc
 rw [encN_succ, if_neg (by omega), encN_more 6 (m / 128) (by
  have : (128 : Int) ^ 7 = 562949953421312 := by decide
  show m / 128 < 128 ^ 7
  rw [this]; omega)]
theorem enc_length (m : Int) (h0 : 0 ≤ m) (h : m ≤ 281474976710656) : ((enc m).length : Int) = sizeN m := by
  have key : ∀ (f : Nat) (m : Int), 0 ≤ m → m < 562949953421312 → m < 128 ^ (f + 1) → ((encN (f + 1) m).length : Int) = 1 + remN (m / 128) := by
    intro f
    induction f with
    | zero => intro m a b c
              have : m < 128 := by simpa using c
              simp [encN, this]; rw [remN_zero _ (by omega)]; rfl
    | succ f ih =>
      intro m a b c
      by_cases g : m < 128
      · simp [encN, g]; rw [remN_zero _ (by omega)]; rfl
      · have h2 : m / 128 < 128 ^ (f + 1) := by
          rw [Int.pow_succ] at c
          omega
        rw [encN_succ, if_neg g, List.length_cons]
        have := ih (m / 128) (by omega) (by omega) h2
        rw [remN_div (m / 128) (by omega) (by omega)]
        omega
  unfold enc sizeN
  rw [if_pos ⟨h0, h⟩]
  exact key 7 m h0 (by omega) (by
    have : (128 : Int) ^ 8 = 72057594037927936 := by decide
    show m < 128 ^ 8
    rw [this]; omega)
end Go.Proofs.YtnancdbkmompdaaGreat
namespace Go.Proofs.YtnancdbkmompdaaGreat
open Go.RowKit
set_option linter.unusedSimpArgs false
set_option linter.unusedVariables false
set_option maxRecDepth 100000
set_option maxHeartbeats 40000000
theorem ret_int {k : IntKind} {a b : Int} (h : a = b) : Ending.returned (.int k a) = .returned (.int k b) := by rw [h]
theorem ret_str {a b : ByteArray} (h : a = b) : Ending.returned (.string a) = .returned (.string b) := by rw [h]
theorem ret_bool {a b : Bool} (h : a = b) : Ending.returned (.bool a) = .returned (.bool b) := by rw [h]
abbrev u8v (xs : List Int) : List Value := xs.map (Value.int .u8)
/-- A text's bytes, as numbers. -/
def byt (s : ByteArray) : List Int := s.data.toList.map fun b => (b.toNat : Int)
theorem byt_length (s : ByteArray) : (byt s).length = s.size := by simp [byt]
theorem byt_cells (s : ByteArray) : Lib.strCells s = u8v (byt s) := by simp [Lib.strCells, byt, u8v]
theorem byt_range (s : ByteArray) : ∀ x ∈ byt s, 0 ≤ x ∧ x ≤ 255 := by
 intro x hx
 simp only [byt, List.mem_map] at hx
 obtain ⟨b, _, rfl⟩ := hx
 have := b.toNat_lt
 omega
/-- Bytes as a text. -/
def txt (xs : List Int) : ByteArray := ⟨(xs.map fun n => UInt8.ofNat n.toNat).toArray⟩
theorem txt_data (xs : List Int) : (txt xs).data.toList = xs.map fun n => UInt8.ofNat n.toNat := by simp [txt]
theorem txt_size (xs : List Int) : (txt xs).size = xs.length := by simp [txt, ByteArray.size]
theorem txt_push (xs : List Int) : ∀ s : ByteArray, (xs.foldl (fun r n => r.push (UInt8.ofNat n.toNat)) s) = ⟨s.data ++ (xs.map fun n => UInt8.ofNat n.toNat).toArray⟩ := by
 induction xs with
 | nil => intro s; cases s; simp
 | cons x xs ih => intro s; rw [List.foldl_cons, ih]; cases s; simp [ByteArray.push]
theorem txt_fold (xs : List Int) : (xs.foldl (fun r n => r.push (UInt8.ofNat n.toNat)) ByteArray.empty) = txt xs := by
 rw [txt_push, show ByteArray.empty.data = #[] from rfl]; simp [txt]
theorem txt_byt (s : ByteArray) : txt (byt s) = s := by
 cases s with
 | mk d =>
  unfold txt byt
  congr 1
  rw [List.map_map]
  have : ∀ b : UInt8, ((fun n : Int => UInt8.ofNat n.toNat) ∘ fun b : UInt8 => (b.toNat : Int)) b = b := by intro b; simp
  rw [List.map_congr_left (fun b _ => this b)]
  simp
theorem byt_txt {xs : List Int} (h : ∀ x ∈ xs, 0 ≤ x ∧ x ≤ 255) : byt (txt xs) = xs := by
 unfold byt
 rw [txt_data, List.map_map]
 have : ∀ x ∈ xs, ((fun b : UInt8 => (b.toNat : Int)) ∘ fun n : Int => UInt8.ofNat n.toNat) x = x := by
  intro x q
  have := h x q
  simp
  omega
 rw [List.map_congr_left this]; simp
theorem byt_inj {a b : ByteArray} (h : byt a = byt b) : a = b := by rw [← txt_byt a, ← txt_byt b, h]
theorem toList_eq_iff (a b : ByteArray) : (a.toList == b.toList) = decide (byt a = byt b) := by
 rw [ByteArray.toList_eq, ByteArray.toList_eq]
 by_cases h : a = b
 ·subst h; simp
 ·have h1 : byt a ≠ byt b := fun e => h (byt_inj e)
  have h2 : a.data ≠ b.data := fun e => h (by cases a; cases b; simp_all)
  simp [h1, h2]
/-- Bytes that can be read from an address. -/
def BRd (w : World) (a : Option Addr) (xs : List Int) : Prop :=
 xs.length ≤ 9223372036854775807 ∧ (xs = [] ∨ ∃ g off, a = some ⟨g, off, none⟩ ∧ g < w.heap.size ∧ ∀ i, i < xs.length → w.cell? ⟨g, off + i, none⟩ = some (.int .u8 (xs.getD i 0)))
theorem BRd.below {w w' : World} {a : Option Addr} {xs : List Int} (h : BRd w a xs) (hb : Below w.heap.size w w') : BRd w' a xs := by
 obtain ⟨h1, h2⟩ := h
 refine ⟨h1, ?_⟩
 rcases h2 with h2 | ⟨b, off, ha, hbl, hc⟩
 ·exact .inl h2
 ·exact .inr ⟨b, off, ha, by have := hb.size; omega, fun i hi => by rw [hb.cell (p := ⟨b, off + i, none⟩) hbl]; exact hc i hi⟩
/-- How a slice's address and capacity fit its bytes. -/
def Fits (a : Option Addr) (xs : List Int) (cap : Nat) : Prop := (a = none → cap = 0) ∧ xs.length ≤ cap ∧ cap ≤ 9223372036854775807 ∧ ∀ x, a = some x → x.spot = none
/-- A slice of bytes. -/
structure Bt (w : World) (v : Value) (xs : List Int) : Prop where
 row : ∃ a cap, v = .slice a xs.length cap ∧ BRd w a xs ∧ Fits a xs cap
theorem Bt.below {w w' : World} {v : Value} {xs : List Int} (h : Bt w v xs) (hb : Below w.heap.size w w') : Bt w' v xs := by
 obtain ⟨a, cap, e, h1, h2⟩ := h.row
 exact ⟨a, cap, e, h1.below hb, h2⟩
theorem Bt.nil (w : World) : Bt w (.slice none 0 0) [] := ⟨none, 0, rfl, ⟨by simp, .inl rfl⟩, fun _ => rfl, by simp, by omega, fun x h => by cases h⟩
/-- Of what makes memory alone: what was there stays. -/
theorem below_self {w w1 w2 : World} (h : Below w.heap.size w w1) (k : Below w1.heap.size w1 w2) : Below w.heap.size w w2 := h.trans (k.mono h.size)
/-- A row of bytes that a call has made can be read. -/
theorem bt_of_owns {w : World} {base e : Nat} {v : Value} {xs : List Int} (h : w.ownsRow base e 1 v xs.length (u8v xs)) (hl : xs.length ≤ 9223372036854775807) : Bt w v xs := by
 obtain ⟨_, h | ⟨g, cap, cur, rfl, hg, hh, hn, hmx, hs, hx⟩⟩ := h
 ·obtain ⟨rfl, h0⟩ := h
  have : xs = [] := List.eq_nil_of_length_eq_zero h0
  subst this
  exact Bt.nil w
 ·refine ⟨some ⟨g, 0, none⟩, cap, rfl, ⟨hl, ?_⟩, (fun h => by cases h), hn, (by unfold maxLen at hmx; omega), (fun x q => by cases q; rfl)⟩
  by_cases h0 : xs = []
  ·exact .inl h0
  ·refine .inr ⟨g, 0, rfl, ?_, fun i hi => ?_⟩
   ·by_cases q : g < w.heap.size
    ·exact q
    ·have : w.heap[g]? = none := by simp; omega
     rw [this] at hh; cases hh
   ·have e : cur[i]? = some (.int .u8 (xs.getD i 0)) := by
     have h1 : (cur.toList.take (xs.length * 1))[i]? = (u8v xs)[i]? := by rw [hx]
     rw [List.getElem?_take, if_pos (by omega)] at h1
     rw [← Array.getElem?_toList, h1]
     simp [List.getD, hi]
    simp [World.cell?, hh, e]
theorem brd_news {w : World} {ad : Addr} {xs : List Int} (h : BRd w (some ad) xs) : ∀ (j : Nat) (u : Value), (u8v xs)[j]? = some u → w.cell? (ad.add j) = some u := by
 intro j u hu
 rcases h.2 with h0 | ⟨b, off, ha, _, hc⟩
 ·subst h0; simp at hu
 ·cases ha
  have hj : j < xs.length := by
   have := (List.getElem?_eq_some_iff.1 hu).1
   simpa using this
  have e : u = .int .u8 (xs.getD j 0) := by
   simp [hj] at hu; simp [List.getD, hj, ← hu]
  rw [e]
  by_cases h0 : j = 0
  ·subst h0; simpa [Addr.add] using hc 0 hj
  ·simpa [Addr.add, h0] using hc j hj
/-- A row of bytes that was just laid. -/
theorem bt_lit (w : World) (xs : List Int) (e : TypeId) (fr : Nat × Nat) (hl : xs.length ≤ 9223372036854775807) : Bt (w.alloc (.cells (u8v xs).toArray e fr)) (.slice (some ⟨w.heap.size, 0, none⟩) xs.length xs.length) xs := by
 refine ⟨some ⟨w.heap.size, 0, none⟩, xs.length, rfl, ⟨hl, .inr ⟨w.heap.size, 0, rfl, by simp, fun i hi => ?_⟩⟩, (fun h => by cases h), by omega, hl, fun x q => by cases q; rfl⟩
 have hh := heap_alloc_new w (.cells (u8v xs).toArray e fr)
 rw [cell_of_row _ _ (0 + i) _ _ _ hh]
 simp [u8v, hi, List.getD]
section
variable {P : Program}
theorem bt_bytes (w : World) (src dst e : TypeId) (s : ByteArray) (hl : s.size ≤ 9223372036854775807) (hs : P.underlying src = some .string) (hd : P.underlying dst = some (.slice e)) (he : P.underlying e = some (.int .u8)) :
  ∃ v' w', (convert src dst (.string s)).run P w = .ok v' w' ∧ Bt w' v' (byt s) ∧ w.heap.size + 1 = w'.heap.size ∧ Below w.heap.size w w' := by
 refine ⟨_, _, run_bytes_of_string w src dst e s hs hd he, ?_, by simp, ((Below.refl _ w).drew).alloc (Nat.le_refl _) _⟩
 have hge := grownCap_ge w s.size 0 e
 have hcm := grownCap_le_maxLen w s.size 0 e (by unfold maxLen; exact hl)
 refine ⟨some ⟨w.heap.size, 0, none⟩, grownCap w s.size 0 e, by rw [byt_length], ⟨by rw [byt_length]; exact hl, ?_⟩, (fun h => by cases h), by rw [byt_length]; exact hge, by unfold maxLen at hcm; exact hcm, fun x q => by cases q; rfl⟩
 by_cases h0 : byt s = []
 ·exact .inl h0
 refine .inr ⟨w.heap.size, 0, rfl, by simp, fun i hi => ?_⟩
 rw [byt_length] at hi
 have hh := heap_alloc_new w.drew (.cells (bytesRow s (grownCap w s.size 0 e)) e ((bytesRow s (grownCap w s.size 0 e)).size, (bytesRow s (grownCap w s.size 0 e)).size + 1))
 have := cell_of_row _ _ (0 + i) _ _ _ hh
 rw [show w.drew.heap.size = w.heap.size from rfl] at this
 rw [this]
 have hi2 : i < s.data.size := hi
 have e1 : s.data[i]? = some s.data[i] := by simp [hi2]
 simp [bytesRow, byt, Array.getElem?_append, List.getD, e1]
 intro q; omega
/-- 'string(b)'. -/
theorem run_text {w : World} {src dst e : TypeId} {a : Option Addr} {c : Nat} {xs : List Int} (h : BRd w a xs) (hf : Fits a xs c) (hs : P.underlying src = some (.slice e)) (he : P.underlying e = some (.int .u8)) (hd : P.underlying dst = some .string) :
  (convert src dst (.slice a xs.length c)).run P w = .ok (.string (txt xs)) w := by
 rw [run_convert_bytes_string w src dst e _ _ _ hs he hd]
 cases a with
 | none =>
  have : xs = [] := by
   rcases h.2 with h0 | ⟨g, off, ha, _⟩
   ·exact h0
   ·cases ha
  subst this
  rfl
 | some ad =>
  rw [← txt_fold]
  refine run_bytesToString w _ _ _ xs ?_
  have := run_loadCells_list (P := P) (w := w) ad (u8v xs) (brd_news h)
  simpa [u8v] using this
end
theorem size_any (n : Int) (w : World) : Calls Tryz.prog 145 #[.int .i64 n] w fun e w' => e = .returned (.int .i64 (sizeN n)) ∧ w = w' := by
 by_cases h0 : n < 0
 ·have e : sizeN n = 0 := by unfold sizeN; rw [if_neg (by omega)]
  rw [e]
  go_enter Tryz.func145, Tryz.ntmps145
  go_wp2
  go_ret
  exact ⟨rfl, rfl⟩
 by_cases h1 : 281474976710656 < n
 ·have e : sizeN n = 0 := by unfold sizeN; rw [if_neg (by omega)]
  rw [e]
  go_enter Tryz.func145, Tryz.ntmps145
  go_wp2
  go_ret
  exact ⟨rfl, rfl⟩
 ·have e : sizeN n = 1 + remN (n / 128) := by unfold sizeN; rw [if_pos (by omega)]
  have E := Hd e
  clear e
  have d0 : decide (n < 0) = false := by simpa using h0
  have d1 : decide ((281474976710656 : Int) < n) = false := by simpa using h1
  go_enter Tryz.func145, Tryz.ntmps145
  go_wp2
  go_loop [0, 3] (fun a c => ∃ m s : Int, 0 ≤ m ∧ m ≤ 2199023255552 ∧ 1 ≤ s ∧ s ≤ 8 ∧ a = .int .i64 m ∧ c = .int .i64 s ∧ Hid (s + remN m = sizeN n)) (fun a _ => (intOf a).toNat)
  case atStart => exact ⟨n / 128, 1, by omega, by omega, by omega, by omega, rfl, rfl, E.out.symm⟩
  case round =>
   obtain ⟨m, s, hm0, hm1, hs0, hs1, rfl, rfl, hH⟩ := hrel
   by_cases hlt : 0 < m
   ·have hr := remN_div m (by omega) (by omega)
    have hrr := remN_range (m / 128)
    have hsz := sizeN_range n
    have hs2 : s + 1 + remN (m / 128) = sizeN n := by have := hH.out; omega
    have HS : Hid (s + 1 + remN (m / 128) = sizeN n) := hs2
    have hs3 : s + 1 ≤ 8 := by omega
    clear hr hrr hsz hs2
    go_wp2
    go_round
    case rel => exact ⟨m / 128, s + 1, by omega, by omega, by omega, by omega, rfl, rfl, HS⟩
    case measure => simp [intOf]; omega
   ·have hz : s = sizeN n := by have := hH.out; rw [remN_zero m (by omega)] at this; omega
    have HZ := Hd hz
    clear hz
    go_wp2
    go_ret
    exact ⟨ret_int HZ.out, rfl⟩
/-- A writer that lies in block b: what it has written, and whether it is spoilt. -/
structure WrAt (w : World) (b : Nat) (xs : List Int) (sp : Bool) : Prop where
 spoil : w.cell? ⟨b, 1, none⟩ = some (.bool sp)
 free0 : w.frozen? ⟨b, 0, none⟩ = false
 free1 : w.frozen? ⟨b, 1, none⟩ = false
 size : b < w.heap.size
 row : ∃ v, w.cell? ⟨b, 0, none⟩ = some v ∧ w.ownsRow (b + 1) 5 1 v xs.length (u8v xs)
theorem or128 (m : Int) (h : 0 ≤ m) : bits BinOp.or IntKind.u8 (m % 256) 128 = m % 128 + 128 := by
 have key : ∀ x : Fin 256, bits BinOp.or IntKind.u8 (x.val : Int) 128 = (x.val : Int) % 128 + 128 := by decide +kernel
 have h2 : m % 256 = (((m % 256).toNat : Nat) : Int) := by omega
 have h3 : (m % 256).toNat < 256 := by omega
 have := key ⟨(m % 256).toNat, h3⟩
 simp only at this
 rw [h2, this]; omega
theorem sizeN_bad {n : Int} (h : ¬ (0 ≤ n ∧ n ≤ 281474976710656)) : sizeN n = 0 := by unfold sizeN; rw [if_neg h]
/-- A slice of bytes that can be read: at most what it holds. -/
structure BRow (w : World) (v : Value) (xs : List Int) : Prop where
 row : ∃ base, w.ownsRow base 5 1 v xs.length (u8v xs)
section
variable {P : Program} {ops : Array Oper} {rest : List Oper} {o : Oper} {a : Act} {w : World} {Q : Exit → Act → World → Prop}
/-- An operation that comes to a value. -/
theorem wpList_value (hw : Region.wanted o (yielded ops a.tmps) = true) (v : Value) (w' : World) (hr : (execOp a.eval o).run P w = .ok (.value v) w')
  (h : wpList P ops Q rest (a.put o.dst v) w') : wpList P ops Q (o :: rest) a w := by
 refine wpList_step fun K hK => ?_
 rw [if_pos hw]
 unfold Oper.wp
 rw [hr]
 exact hK _ _ h
/-- An operation that comes to nothing but a new world. -/
theorem wpList_done (hw : Region.wanted o (yielded ops a.tmps) = true) (w' : World) (hr : (execOp a.eval o).run P w = .ok .skip w')
  (h : wpList P ops Q rest (a.put o.dst undef) w') : wpList P ops Q (o :: rest) a w := by
 refine wpList_step fun K hK => ?_
 rw [if_pos hw]
 unfold Oper.wp
 rw [hr]
 exact hK _ _ h
/-- A whole array into a variable. -/
theorem wpList_store_row (hw : Region.wanted o (yielded ops a.tmps) = true) (t : TypeId) (x y : Operand) (ho : o.op = .store t x y) (g : Nat) (hx : a.eval x = .pointer (some ⟨g, 0, none⟩)) (cells : Array Value) (hy : a.eval y = .agg cells)
  (old : Array Value) (e : TypeId) (hg : w.heap[g]? = some (.cells old e (0, 0))) (hi : (P.info? t).map (·.size) = some cells.size) (hs : old.size = cells.size) (h1 : cells.all (·.oneCell') = true)
  (h : wpList P ops Q rest (a.put o.dst undef) (w.setRow g cells)) : wpList P ops Q (o :: rest) a w := by
 refine wpList_done hw _ ?_ h
 unfold execOp
 simp only [ho, hx, hy, Instr.storeAt, Instr.sureAddr, Sem.run_bind, Sem.run_pure, Result.andThen_ok, run_storeVar_row w g e t old cells hg hi hs h1]
end
theorem heap_setRow_same (w : World) (g : Nat) (cs cells : Array Value) (t : TypeId) (hg : w.heap[g]? = some (.cells cs t (0, 0))) : (w.setRow g cells).heap[g]? = some (.cells cells t (0, 0)) := by
 simp only [World.setRow]
 rw [Array.getElem?_modify]
 simp [hg]
theorem below_setRow {B : Nat} {a w : World} (h : Below B a w) {g : Nat} (hp : B ≤ g) (cs : Array Value) : Below B a (w.setRow g cs) := by
 refine ⟨h.os, h.tape, h.output, by simpa using h.size, fun k hk => ?_⟩
 rw [← h.block k hk]
 simp only [World.setRow]
 rw [Array.getElem?_modify, if_neg (by omega)]
theorem info8 : (Tryz.prog.info? 5).map (fun i => (i.zero, i.size, i.bytes)) = some (some (.int .u8 0), 1, 1) := by kernel_rfl
/-- A row of bytes of one's own, from a block on. -/
def Own8 (w : World) (base : Nat) (v : Value) (xs : List Int) : Prop := w.ownsRow base 5 1 v xs.length (u8v xs)
theorem Own8.bt {w : World} {base : Nat} {v : Value} {xs : List Int} (h : Own8 w base v xs) (hl : xs.length ≤ 9223372036854775807) : Bt w v xs := bt_of_owns h hl
theorem own8_from {w : World} {base : Nat} {v : Value} {xs : List Int} (h : Own8 w base v xs) : ∀ k, v.ownBlock = some k → base ≤ k := by
 intro k hk
 rcases h.2 with ⟨rfl, _⟩ | ⟨g, cap, cur, rfl, hg, _⟩
 ·cases hk
 ·simp [Value.ownBlock] at hk; omega
theorem Own8.nil (w : World) (base : Nat) : Own8 w base (.slice none 0 0) [] := ⟨rfl, .inl ⟨rfl, rfl⟩⟩
section
variable {ops : Array Oper} {rest : List Oper} {o : Oper} {a : Act} {w : World} {Q : Exit → Act → World → Prop}
end
/-- What a call may write: block p, and the row of v; all else that was there stays. -/
structure Foot (w w' : World) (p : Nat) (v : Value) : Prop where
 os : w'.os = w.os
 tape : w'.tape = w.tape
 output : w'.output = w.output
 size : w.heap.size ≤ w'.heap.size
 block : ∀ k, k < w.heap.size → k ≠ p → some k ≠ v.ownBlock → w'.heap[k]? = w.heap[k]?
theorem Own8.slice {w : World} {base : Nat} {v : Value} {xs : List Int} (h : Own8 w base v xs) : ∃ a c, v = .slice a xs.length c := by
 rcases h.2 with ⟨rfl, h0⟩ | ⟨g, cap, cur, rfl, _⟩
 ·exact ⟨_, _, by rw [h0]⟩
 ·exact ⟨_, _, rfl⟩
theorem Own8.lt {w : World} {base : Nat} {v : Value} {xs : List Int} (h : Own8 w base v xs) : ∀ k, v.ownBlock = some k → k < w.heap.size := by
 intro k hk
 rcases h.2 with ⟨rfl, _⟩ | ⟨g, cap, cur, rfl, hg, hh, _⟩
 ·cases hk
 ·simp [Value.ownBlock] at hk
  subst hk
  exact (Array.getElem?_eq_some_iff.1 hh).1
/-- A row stays where its block does. -/
theorem Own8.keep {w w' : World} {base : Nat} {v : Value} {xs : List Int} (h : Own8 w base v xs) (hk : ∀ k, v.ownBlock = some k → w'.heap[k]? = w.heap[k]?) : Own8 w' base v xs := by
 obtain ⟨h1, h2⟩ := h
 refine ⟨h1, ?_⟩
 rcases h2 with h2 | ⟨g, cap, cur, hv, hg, hh, hr⟩
 ·exact .inl h2
 ·exact .inr ⟨g, cap, cur, hv, hg, (hk g (by rw [hv]; rfl)).trans hh, hr⟩
theorem Own8.set {w : World} {base : Nat} {v : Value} {xs : List Int} (h : Own8 w base v xs) {a : Addr} (ha : ∀ k, v.ownBlock = some k → k ≠ a.block) (u : Value) : Own8 (w.setCell a u) base v xs :=
 h.keep fun k hk => Below.heap_setCell _ _ _ _ (ha k hk)
theorem Own8.below {w w' : World} {base : Nat} {v : Value} {xs : List Int} (h : Own8 w base v xs) (hb : Below w.heap.size w w') : Own8 w' base v xs :=
 h.keep fun k hk => hb.block k (h.lt k hk)
theorem Own8.le {w : World} {b b2 : Nat} {v : Value} {xs : List Int} (h : Own8 w b v xs) (hb : b2 ≤ b) : Own8 w b2 v xs := by
 obtain ⟨h1, h2⟩ := h
 refine ⟨h1, ?_⟩
 rcases h2 with h2 | ⟨g, cap, cur, hv, hg, hr⟩
 ·exact .inl h2
 ·exact .inr ⟨g, cap, cur, hv, Nat.le_trans hb hg, hr⟩
theorem Foot.refl (w : World) (p : Nat) (v : Value) : Foot w w p v := ⟨rfl, rfl, rfl, Nat.le_refl _, fun _ _ _ _ => rfl⟩
theorem Foot.below {w w' : World} {B p : Nat} {v : Value} (h : Foot w w' p v) (hp : B ≤ p) (hv : ∀ k, v.ownBlock = some k → B ≤ k) (hB : B ≤ w.heap.size) : Below B w w' :=
 ⟨h.os, h.tape, h.output, h.size, fun k hk => h.block k (by omega) (by omega) (fun e => by have := hv k e.symm; omega)⟩
theorem Foot.set {w w' : World} {p : Nat} {v : Value} (h : Foot w w' p v) (o : Nat) (u : Value) : Foot w (w'.setCell ⟨p, o, none⟩ u) p v :=
 ⟨h.os, h.tape, h.output, by simpa using h.size, fun k h1 h2 h3 => (Below.heap_setCell _ _ _ _ (by dsimp only; omega)).trans (h.block k h1 h2 h3)⟩
/-- What comes of a disk's rows: the same, or a new one. -/
def Next (w : World) (v v' : Value) : Prop := ∀ k, v'.ownBlock = some k → v.ownBlock = some k ∨ w.heap.size ≤ k
theorem Foot.trans {w w1 w2 : World} {p : Nat} {v v1 : Value} (h : Foot w w1 p v) (k : Foot w1 w2 p v1) (hn : Next w v v1) : Foot w w2 p v :=
 ⟨k.os.trans h.os, k.tape.trans h.tape, k.output.trans h.output, Nat.le_trans h.size k.size, fun j h1 h2 h3 => (k.block j (Nat.lt_of_lt_of_le h1 h.size) h2 (fun e => by
  rcases hn j e.symm with q | q
  ·exact h3 q.symm
  ·omega)).trans (h.block j h1 h2 h3)⟩
theorem Next.trans {w w1 : World} {v v1 v2 : Value} (h : Next w v v1) (k : Next w1 v1 v2) (hs : w.heap.size ≤ w1.heap.size) : Next w v v2 := fun j hj => by
 rcases k j hj with q | q
 ·exact h j q
 ·exact .inr (Nat.le_trans hs q)
theorem Next.refl (w : World) (v : Value) : Next w v v := fun k h => .inl h
theorem blk_set {w : World} {p : Nat} {t : TypeId} (h : ∃ cs fr, w.heap[p]? = some (.cells cs t fr)) (o : Nat) (u : Value) : ∃ cs fr, (w.setCell ⟨p, o, none⟩ u).heap[p]? = some (.cells cs t fr) := by
 obtain ⟨cs, fr, hh⟩ := h
 refine ⟨cs.setIfInBounds o u, fr, ?_⟩
 simp [World.setCell, Array.getElem?_modify, hh]
theorem Own8.blk {w : World} {base : Nat} {v : Value} {xs : List Int} (h : Own8 w base v xs) : ∀ k, v.ownBlock = some k → ∃ cs fr, w.heap[k]? = some (.cells cs 5 fr) := by
 intro k hk
 rcases h.2 with ⟨rfl, _⟩ | ⟨g, cap, cur, rfl, hg, hh, _⟩
 ·cases hk
 ·simp [Value.ownBlock] at hk
  subst hk
  exact ⟨_, _, hh⟩
theorem blk_ne {w : World} {k : Nat} {s t : TypeId} (hst : s ≠ t) (h1 : ∃ cs fr, w.heap[k]? = some (.cells cs s fr)) (h2 : ∃ cs fr, w.heap[k]? = some (.cells cs t fr)) : False := by
 obtain ⟨cs, fr, h1⟩ := h1
 obtain ⟨cs2, fr2, h2⟩ := h2
 rw [h1] at h2
 simp only [Option.some.injEq, Obj.cells.injEq] at h2
 exact hst h2.2.1
/-- An append's row is the old one, or a new one. -/
theorem append_next {P : Program} (w : World) (t ty e : TypeId) (i : TypeInfo) (z : Value) (base : Nat) (ht : P.underlying t = some (.slice e)) (hi : P.info? e = some i) (hz : i.zero = some z)
  (v : Value) (n : Nat) (xs : List Value) (hown : w.ownsRow base e i.size v n xs) (hsz : 0 < i.size)
  (a : Addr) (m c : Nat) (news : List Value) (hl : news.length = m * i.size) (hnews : ∀ j u, news[j]? = some u → w.cell? (a.add j) = some u) (h1 : ∀ u ∈ news, u.oneCell' = true)
  (h63 : n + m ≤ maxLen) (hbytes : (n + m) * i.bytes ≤ 140737488355328) (v' : Value) (w' : World)
  (hr : (Builtin.append_ #[t, t] ty #[v, .slice (some a) m c]).run P w = .ok v' w') : Next w v v' := by
 have hsm : n + m ≤ 9223372036854775807 := by unfold maxLen at h63; omega
 rcases hown.2 with ⟨rfl, rfl⟩ | ⟨g, cap, cur, rfl, hbg, hg, hnc, hcm, hcs, htake⟩
 ·by_cases hm : m = 0
  ·subst hm
   have hn : news = [] := List.eq_nil_of_length_eq_zero (by simpa using hl)
   subst hn
   have q : (Builtin.append_ #[t, t] ty #[.slice none 0 0, .slice (some a) 0 c]).run P w = .ok (.slice none 0 0) w := by
    simp [Builtin.append_, run_underlying ht, sizeOf, typeInfo, hi, Builtin.lenOf, Builtin.firstCells, loadCells, loadCellsFrom]
   rw [q] at hr
   simp only [Result.ok.injEq] at hr
   rw [← hr.1]
   exact Next.refl _ _
  ·have q := run_append_nil (P := P) w t ty e i z ht hi hz a m c news hl hnews (by omega) (by omega) (by have hb := hbytes; simp only [Nat.zero_add] at hb; omega)
   rw [q] at hr
   simp only [Result.ok.injEq] at hr
   rw [← hr.1]
   intro k hk
   simp [Value.ownBlock] at hk
   omega
 ·by_cases hroom : n + m ≤ cap
  ·have hfit : n * i.size + news.length ≤ cur.size := by rw [hl, hcs, ← Nat.add_mul]; exact Nat.mul_le_mul_right _ hroom
   have q := run_append_room (P := P) w t ty e i ht hi g n cap cur hg a m c news hl hnews h1 hroom hfit
   rw [q] at hr
   simp only [Result.ok.injEq] at hr
   rw [← hr.1]
   intro k hk
   exact .inl hk
  ·have holds : ∀ j u, xs[j]? = some u → w.cell? ((⟨g, 0, none⟩ : Addr).add j) = some u := hown.cells (g := g) rfl
   have q := run_append_grow (P := P) w t ty e i z ht hi hz ⟨g, 0, none⟩ n cap xs hown.1 holds a m c news hl hnews (by omega) (by omega) (growslice_fits (by omega) hbytes)
   rw [q] at hr
   simp only [Result.ok.injEq] at hr
   rw [← hr.1]
   intro k hk
   simp [Value.ownBlock] at hk
   omega
section
variable {ops : Array Oper} {rest : List Oper} {o : Oper} {a : Act} {w : World} {Q : Exit → Act → World → Prop}
/-- 'append(s, x...)' of bytes: told with what the row then is. -/
theorem wpList_app8N (hgd : o.guard = none) (s x : Operand) (ho : o.op = .call { callee := .builtin .append, args := #[s, x], argTypes := #[33, 33] })
  (base : Nat) (v : Value) (xs : List Int) (hs : a.eval s = v) (hown : Own8 w base v xs) (vy : Value) (ys : List Int) (hx : a.eval x = vy) (hy : Bt w vy ys) (hl : xs.length + ys.length ≤ 100000000000) (hbase : base ≤ w.heap.size)
  (h : ∀ v' w', Own8 w' base v' (xs ++ ys) → w.grownBy w' v.ownBlock → Next w v v' → wpList Tryz.prog ops Q rest (a.put o.dst v') w') : wpList Tryz.prog ops Q (o :: rest) a w := by
 obtain ⟨i0, hi, hz0, hz1, hz2⟩ := info_parts info8
 obtain ⟨ad, cap, rfl, h1, h2⟩ := hy.row
 cases ad with
 | none =>
  have hys : ys = [] := by
   rcases h1.2 with h0 | ⟨g, off, ha, _⟩
   ·exact h0
   ·cases ha
  subst hys
  obtain rfl := h2.1 rfl
  refine wpList_append_own_none hgd s x 33 ho base 5 i0 1 Tryz.underlying33 hi v xs.length (u8v xs) hs hown hx ?_
  exact h v w (by simpa using hown) ⟨rfl, rfl, rfl, Nat.le_refl _, fun _ _ _ => rfl⟩ (Next.refl _ _)
 | some ad =>
  have hq1 : (u8v ys).length = ys.length * 1 := by simp
  have hq2 : ∀ u ∈ u8v ys, u.oneCell' = true := by intro u hu; simp at hu; obtain ⟨z, _, rfl⟩ := hu; rfl
  have hq3 : xs.length + ys.length ≤ maxLen := by unfold maxLen; omega
  have hq4 : (xs.length + ys.length) * 1 ≤ 140737488355328 := by omega
  obtain ⟨v', w', hr, q1, q2, _⟩ := run_append_own (P := Tryz.prog) w base 33 o.type 5 i0 (.int .u8 0) 1 1 Tryz.underlying33 hi hz0 hz1 hz2 rfl (by decide) v xs.length (u8v xs) hown ad ys.length cap (u8v ys) hq1 (brd_news h1) hq2 hq3 hq4 hbase
  have hN := append_next (P := Tryz.prog) w 33 o.type 5 i0 (.int .u8 0) base Tryz.underlying33 hi hz0 v xs.length (u8v xs) (by rw [hz1]; exact hown) (by rw [hz1]; decide) ad ys.length cap (u8v ys) (by rw [hz1]; exact hq1) (brd_news h1) hq2 hq3 (by rw [hz2]; exact hq4) v' w' hr
  refine wpList_plain hgd fun K hK => ?_
  unfold Oper.wp execOp
  simp only [ho, resolve, invoke, builtin, Sem.run_bind, Sem.run_pure, Result.andThen_ok, List.map_toArray, List.map_cons, List.map_nil, hs, hx, hr]
  refine hK _ _ (h v' w' ?_ q2 hN)
  unfold Own8
  rw [List.length_append]
  have e : u8v (xs ++ ys) = u8v xs ++ u8v ys := by simp [u8v]
  rw [e]; exact q1
end
theorem append_next_string {P : Program} (w : World) (t u ty e : TypeId) (i : TypeInfo) (base : Nat) (ht : P.underlying t = some (.slice e)) (hu : P.underlying u = some .string) (hi : P.info? e = some i) (hz : i.zero = some (.int .u8 0))
  (hsize : i.size = 1) (hby : i.bytes = 1) (v : Value) (n : Nat) (xs : List Value) (hown : w.ownsRow base e 1 v n xs) (s : ByteArray)
  (h63 : n + s.size ≤ maxLen) (hbytes : n + s.size ≤ 140737488355328) (v' : Value) (w' : World)
  (hr : (Builtin.append_ #[t, u] ty #[v, .string s]).run P w = .ok v' w') : Next w v v' := by
 have hsmall : n + s.size ≤ 9223372036854775807 := by unfold maxLen at h63; omega
 have hxl : xs.length = n := by simpa using hown.1
 rcases hown.2 with ⟨rfl, rfl⟩ | ⟨g, cap, cur, rfl, hbg, hg, hnc, hcm, hcs, htake⟩
 ·by_cases hm : s.size = 0
  ·have hf := Lib.run_firstCells_string (P := P) w 1 s
   rw [hm] at hf
   have q : (Builtin.append_ #[t, u] ty #[.slice none 0 0, .string s]).run P w = .ok (.slice none 0 0) w := by
    simp [Builtin.append_, run_underlying ht, run_underlying hu, sizeOf, typeInfo, hi, hsize, Builtin.lenOf, hm, hf]
   rw [q] at hr
   simp only [Result.ok.injEq] at hr
   rw [← hr.1]
   exact Next.refl _ _
  ·have q := run_append_nil_string (P := P) w t u ty e i (.int .u8 0) ht hu hi hz s (by omega) (by omega) (by rw [hby]; omega)
   rw [q] at hr
   simp only [Result.ok.injEq] at hr
   rw [← hr.1]
   intro k hk
   simp [Value.ownBlock] at hk
   omega
 ·by_cases hroom : n + s.size ≤ cap
  ·have hcs' : cur.size = cap := by simpa using hcs
   have q := Lib.run_append_room_string (P := P) w t u ty e i ht hu hi hsize g n cap cur hg s hroom (by omega)
   rw [q] at hr
   simp only [Result.ok.injEq] at hr
   rw [← hr.1]
   intro k hk
   exact .inl hk
  ·have holds : ∀ j u, xs[j]? = some u → w.cell? ((⟨g, 0, none⟩ : Addr).add j) = some u := hown.cells (g := g) rfl
   have q := Lib.run_append_grow_string (P := P) w t u ty e i (.int .u8 0) ht hu hi hz ⟨g, 0, none⟩ n cap xs (by rw [hsize]; simpa using hxl) holds s (by omega) (by omega) (by rw [hby]; exact growslice_fits (by omega) (by omega))
   rw [q] at hr
   simp only [Result.ok.injEq] at hr
   rw [← hr.1]
   intro k hk
   simp [Value.ownBlock] at hk
   omega
section
variable {ops : Array Oper} {rest : List Oper} {o : Oper} {a : Act} {w : World} {Q : Exit → Act → World → Prop}
/-- 'append(s, t...)' of a text's bytes: told with what the row then is. -/
theorem wpList_appStrN (hgd : o.guard = none) (s x : Operand) (ho : o.op = .call { callee := .builtin .append, args := #[s, x], argTypes := #[33, 9] })
  (base : Nat) (v : Value) (xs : List Int) (hs : a.eval s = v) (hown : Own8 w base v xs) (t : ByteArray) (hx : a.eval x = .string t) (hl : xs.length + t.size ≤ 140000000000000) (hbase : base ≤ w.heap.size)
  (h : ∀ v' w', Own8 w' base v' (xs ++ byt t) → w.grownBy w' v.ownBlock → Next w v v' → wpList Tryz.prog ops Q rest (a.put o.dst v') w') : wpList Tryz.prog ops Q (o :: rest) a w := by
 obtain ⟨i0, hi, hz0, hz1, hz2⟩ := info_parts info8
 have hq3 : xs.length + t.size ≤ maxLen := by unfold maxLen; omega
 have hq4 : xs.length + t.size ≤ 140737488355328 := by omega
 obtain ⟨v', w', hr, q1, q2, _⟩ := Lib.run_append_own_string (P := Tryz.prog) w base 33 9 o.type 5 i0 Tryz.underlying33 Tryz.underlying9 hi hz0 hz1 hz2 v xs.length (u8v xs) hown t hq3 hq4 hbase
 have hN := append_next_string (P := Tryz.prog) w 33 9 o.type 5 i0 base Tryz.underlying33 Tryz.underlying9 hi hz0 hz1 hz2 v xs.length (u8v xs) hown t hq3 hq4 v' w' hr
 refine wpList_plain hgd fun K hK => ?_
 unfold Oper.wp execOp
 simp only [ho, resolve, invoke, builtin, Sem.run_bind, Sem.run_pure, Result.andThen_ok, List.map_toArray, List.map_cons, List.map_nil, hs, hx, hr]
 refine hK _ _ (h v' w' ?_ q2 hN)
 unfold Own8
 rw [List.length_append, byt_length]
 have e : u8v (xs ++ byt t) = u8v xs ++ Lib.strCells t := by rw [byt_cells]; simp [u8v]
 rw [e]; exact q1
end
theorem Foot.grown {w w1 w2 : World} {p : Nat} {v : Value} (hb : Below w.heap.size w w1) (hg : w1.grownBy w2 v.ownBlock) : Foot w w2 p v :=
 ⟨hg.os.trans hb.os, hg.tape.trans hb.tape, hg.output.trans hb.output, Nat.le_trans hb.size hg.size, fun k h1 h2 h3 => (hg.block k (Nat.lt_of_lt_of_le h1 hb.size) (fun e => h3 e)).trans (hb.block k h1)⟩
end Go.Proofs.YtnancdbkmompdaaGreat
