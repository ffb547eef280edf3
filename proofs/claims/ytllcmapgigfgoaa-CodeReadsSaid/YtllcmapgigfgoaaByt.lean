/-
  Rows of bytes that can be read, and texts made of them: for whatever program.
-/
import Derived.Test.YtllcmapgigfgoaaRows
import Derived.WalkKit
import Derived.WalkSpells
import Derived.WalkLawsBesides
import Derived.StillTactics
import Derived.Laws.Pointers
import Derived.LoopTactic
import Derived.Deep.QuietTactic
import Derived.BigQuiet
import Derived.Lib.Hide
import Derived.Outline
import Derived.Laws.AppendOwnNone
import Derived.Lib.AppendStr
import Derived.Laws.IdiomStrings
namespace Go.Proofs.Ytllcmapgigfgoaa
open Go.RowKit
set_option linter.unusedSimpArgs false
set_option linter.unusedVariables false

theorem ret_int {k : IntKind} {a b : Int} (h : a = b) : Ending.returned (.int k a) = .returned (.int k b) := by rw [h]
theorem ret_str {a b : ByteArray} (h : a = b) : Ending.returned (.string a) = .returned (.string b) := by rw [h]
theorem ret_bool {a b : Bool} (h : a = b) : Ending.returned (.bool a) = .returned (.bool b) := by rw [h]
abbrev u8v (xs : List Int) : List Value := xs.map (Value.int .u8)
/-- A text's bytes, as numbers. -/
def byt (s : ByteArray) : List Int := s.data.toList.map fun b => (b.toNat : Int)
theorem byt_length (s : ByteArray) : (byt s).length = s.size := by simp [byt]
theorem byt_cells (s : ByteArray) : Lib.strCells s = u8v (byt s) := by simp [Lib.strCells, byt, u8v]
theorem byt_range (s : ByteArray) : ∀ x ∈ byt s, 0 ≤ x ∧ x ≤ 255 := by
  intro x hx
  simp only [byt, List.mem_map] at hx
  obtain ⟨b, _, rfl⟩ := hx
  have := b.toNat_lt
  omega
/-- Bytes as a text. -/
def txt (xs : List Int) : ByteArray := ⟨(xs.map fun n => UInt8.ofNat n.toNat).toArray⟩
theorem txt_data (xs : List Int) : (txt xs).data.toList = xs.map fun n => UInt8.ofNat n.toNat := by simp [txt]
theorem txt_size (xs : List Int) : (txt xs).size = xs.length := by simp [txt, ByteArray.size]
theorem txt_push (xs : List Int) : ∀ s : ByteArray, (xs.foldl (fun r n => r.push (UInt8.ofNat n.toNat)) s) = ⟨s.data ++ (xs.map fun n => UInt8.ofNat n.toNat).toArray⟩ := by
  induction xs with
  | nil => intro s; cases s; simp
  | cons x xs ih => intro s; rw [List.foldl_cons, ih]; cases s; simp [ByteArray.push]
theorem txt_fold (xs : List Int) : (xs.foldl (fun r n => r.push (UInt8.ofNat n.toNat)) ByteArray.empty) = txt xs := by
  rw [txt_push, show ByteArray.empty.data = #[] from rfl]; simp [txt]
theorem txt_byt (s : ByteArray) : txt (byt s) = s := by
  cases s with
  | mk d =>
    unfold txt byt
    congr 1
    rw [List.map_map]
    have : ∀ b : UInt8, ((fun n : Int => UInt8.ofNat n.toNat) ∘ fun b : UInt8 => (b.toNat : Int)) b = b := by intro b; simp
    rw [List.map_congr_left (fun b _ => this b)]
    simp
theorem byt_txt {xs : List Int} (h : ∀ x ∈ xs, 0 ≤ x ∧ x ≤ 255) : byt (txt xs) = xs := by
  unfold byt
  rw [txt_data, List.map_map]
  have : ∀ x ∈ xs, ((fun b : UInt8 => (b.toNat : Int)) ∘ fun n : Int => UInt8.ofNat n.toNat) x = x := by
    intro x q
    have := h x q
    simp
    omega
  rw [List.map_congr_left this]; simp
theorem byt_inj {a b : ByteArray} (h : byt a = byt b) : a = b := by rw [← txt_byt a, ← txt_byt b, h]
theorem byt_append (a b : ByteArray) : byt (a ++ b) = byt a ++ byt b := by simp [byt]
theorem toList_eq_iff (a b : ByteArray) : (a.toList == b.toList) = decide (byt a = byt b) := by
  rw [ByteArray.toList_eq, ByteArray.toList_eq]
  by_cases h : a = b
  · subst h; simp
  · have h1 : byt a ≠ byt b := fun e => h (byt_inj e)
    have h2 : a.data ≠ b.data := fun e => h (by cases a; cases b; simp_all)
    simp [h1, h2]

/-- Bytes that can be read from an address. -/
def BRd (w : World) (a : Option Addr) (xs : List Int) : Prop :=
  xs.length ≤ 9223372036854775807 ∧ (xs = [] ∨ ∃ g off, a = some ⟨g, off, none⟩ ∧ g < w.heap.size ∧ ∀ i, i < xs.length → w.cell? ⟨g, off + i, none⟩ = some (.int .u8 (xs.getD i 0)))
theorem BRd.below {w w' : World} {a : Option Addr} {xs : List Int} (h : BRd w a xs) (hb : Below w.heap.size w w') : BRd w' a xs := by
  obtain ⟨h1, h2⟩ := h
  refine ⟨h1, ?_⟩
  rcases h2 with h2 | ⟨b, off, ha, hbl, hc⟩
  · exact .inl h2
  · exact .inr ⟨b, off, ha, by have := hb.size; omega, fun i hi => by rw [hb.cell (p := ⟨b, off + i, none⟩) hbl]; exact hc i hi⟩
/-- How a slice's address and capacity fit its bytes. -/
def Fits (a : Option Addr) (xs : List Int) (cap : Nat) : Prop := (a = none → cap = 0) ∧ xs.length ≤ cap ∧ cap ≤ 9223372036854775807 ∧ ∀ x, a = some x → x.spot = none
/-- A slice of bytes. -/
structure Bt (w : World) (v : Value) (xs : List Int) : Prop where
  row : ∃ a cap, v = .slice a xs.length cap ∧ BRd w a xs ∧ Fits a xs cap
theorem Bt.below {w w' : World} {v : Value} {xs : List Int} (h : Bt w v xs) (hb : Below w.heap.size w w') : Bt w' v xs := by
  obtain ⟨a, cap, e, h1, h2⟩ := h.row
  exact ⟨a, cap, e, h1.below hb, h2⟩
theorem Bt.nil (w : World) : Bt w (.slice none 0 0) [] := ⟨none, 0, rfl, ⟨by simp, .inl rfl⟩, fun _ => rfl, by simp, by omega, fun x h => by cases h⟩
theorem Bt.len {w : World} {v : Value} {xs : List Int} (h : Bt w v xs) : xs.length ≤ 9223372036854775807 := by
  obtain ⟨a, cap, e, h1, h2⟩ := h.row
  exact h1.1
/-- Of what makes memory alone: what was there stays. -/
theorem below_self {w w1 w2 : World} (h : Below w.heap.size w w1) (k : Below w1.heap.size w1 w2) : Below w.heap.size w w2 := h.trans (k.mono h.size)

/-- A row of bytes that a call has made can be read. -/
theorem bt_of_owns {w : World} {base e : Nat} {v : Value} {xs : List Int} (h : w.ownsRow base e 1 v xs.length (u8v xs)) (hl : xs.length ≤ 9223372036854775807) : Bt w v xs := by
  obtain ⟨_, h | ⟨g, cap, cur, rfl, hg, hh, hn, hmx, hs, hx⟩⟩ := h
  · obtain ⟨rfl, h0⟩ := h
    have : xs = [] := List.eq_nil_of_length_eq_zero h0
    subst this
    exact Bt.nil w
  · refine ⟨some ⟨g, 0, none⟩, cap, rfl, ⟨hl, ?_⟩, (fun h => by cases h), hn, (by unfold maxLen at hmx; omega), (fun x q => by cases q; rfl)⟩
    by_cases h0 : xs = []
    · exact .inl h0
    · refine .inr ⟨g, 0, rfl, ?_, fun i hi => ?_⟩
      · by_cases q : g < w.heap.size
        · exact q
        · have : w.heap[g]? = none := by simp; omega
          rw [this] at hh; cases hh
      · have e : cur[i]? = some (.int .u8 (xs.getD i 0)) := by
          have h1 : (cur.toList.take (xs.length * 1))[i]? = (u8v xs)[i]? := by rw [hx]
          rw [List.getElem?_take, if_pos (by omega)] at h1
          rw [← Array.getElem?_toList, h1]
          simp [List.getD, hi]
        simp [World.cell?, hh, e]
theorem brd_news {w : World} {ad : Addr} {xs : List Int} (h : BRd w (some ad) xs) : ∀ (j : Nat) (u : Value), (u8v xs)[j]? = some u → w.cell? (ad.add j) = some u := by
  intro j u hu
  rcases h.2 with h0 | ⟨b, off, ha, _, hc⟩
  · subst h0; simp at hu
  · cases ha
    have hj : j < xs.length := by
      have := (List.getElem?_eq_some_iff.1 hu).1
      simpa using this
    have e : u = .int .u8 (xs.getD j 0) := by
      simp [hj] at hu; simp [List.getD, hj, ← hu]
    rw [e]
    by_cases h0 : j = 0
    · subst h0; simpa [Addr.add] using hc 0 hj
    · simpa [Addr.add, h0] using hc j hj

/-- A row of bytes that was just laid. -/
theorem bt_lit (w : World) (xs : List Int) (e : TypeId) (fr : Nat × Nat) (hl : xs.length ≤ 9223372036854775807) : Bt (w.alloc (.cells (u8v xs).toArray e fr)) (.slice (some ⟨w.heap.size, 0, none⟩) xs.length xs.length) xs := by
  refine ⟨some ⟨w.heap.size, 0, none⟩, xs.length, rfl, ⟨hl, .inr ⟨w.heap.size, 0, rfl, by simp, fun i hi => ?_⟩⟩, (fun h => by cases h), by omega, hl, fun x q => by cases q; rfl⟩
  have hh := heap_alloc_new w (.cells (u8v xs).toArray e fr)
  rw [cell_of_row _ _ (0 + i) _ _ _ hh]
  simp [u8v, hi, List.getD]
section
variable {P : Program}
/-- A conversion of which it is known what it comes to. -/
theorem wpList_convert_ok {ops : Array Oper} {rest : List Oper} {o : Oper} {a : Act} {w : World} {Q : Exit → Act → World → Prop} (hgd : o.guard = none) (src dst : TypeId) (x : Operand)
    (ho : o.op = .convert src dst x) (vx : Value) (hx : a.eval x = vx) (v' : Value) (w' : World) (hr : (convert src dst vx).run P w = .ok v' w')
    (h : wpList P ops Q rest (a.put o.dst v') w') : wpList P ops Q (o :: rest) a w := by
  refine wpList_plain hgd fun K hK => ?_
  unfold Oper.wp execOp
  simp only [ho, hx, hr, Sem.run_bind, Sem.run_pure, Result.andThen_ok]
  exact hK _ _ h
theorem bt_bytes (w : World) (src dst e : TypeId) (s : ByteArray) (hl : s.size ≤ 9223372036854775807) (hs : P.underlying src = some .string) (hd : P.underlying dst = some (.slice e)) (he : P.underlying e = some (.int .u8)) :
    ∃ v' w', (convert src dst (.string s)).run P w = .ok v' w' ∧ Bt w' v' (byt s) ∧ w.heap.size + 1 = w'.heap.size ∧ Below w.heap.size w w' := by
  refine ⟨_, _, run_bytes_of_string w src dst e s hs hd he, ?_, by simp, ((Below.refl _ w).drew).alloc (Nat.le_refl _) _⟩
  have hge := grownCap_ge w s.size 0 e
  have hcm := grownCap_le_maxLen w s.size 0 e (by unfold maxLen; exact hl)
  refine ⟨some ⟨w.heap.size, 0, none⟩, grownCap w s.size 0 e, by rw [byt_length], ⟨by rw [byt_length]; exact hl, ?_⟩, (fun h => by cases h), by rw [byt_length]; exact hge, by unfold maxLen at hcm; exact hcm, fun x q => by cases q; rfl⟩
  by_cases h0 : byt s = []
  · exact .inl h0
  refine .inr ⟨w.heap.size, 0, rfl, by simp, fun i hi => ?_⟩
  rw [byt_length] at hi
  have hh := heap_alloc_new w.drew (.cells (bytesRow s (grownCap w s.size 0 e)) e ((bytesRow s (grownCap w s.size 0 e)).size, (bytesRow s (grownCap w s.size 0 e)).size + 1))
  have := cell_of_row _ _ (0 + i) _ _ _ hh
  rw [show w.drew.heap.size = w.heap.size from rfl] at this
  rw [this]
  have hi2 : i < s.data.size := hi
  have e1 : s.data[i]? = some s.data[i] := by simp [hi2]
  simp [bytesRow, byt, Array.getElem?_append, List.getD, e1]
  intro q; omega
/-- '[]byte(s)', for the walk. -/
theorem wpList_bytes {ops : Array Oper} {rest : List Oper} {o : Oper} {a : Act} {w : World} {Q : Exit → Act → World → Prop} (hgd : o.guard = none) (src dst : TypeId) (x : Operand)
    (ho : o.op = .convert src dst x) (e : TypeId) (hs : P.underlying src = some .string) (hd : P.underlying dst = some (.slice e)) (he : P.underlying e = some (.int .u8)) (s : ByteArray) (hx : a.eval x = .string s)
    (hl : s.size ≤ 9223372036854775807)
    (h : ∀ v' w', Bt w' v' (byt s) → w.heap.size + 1 = w'.heap.size → Below w.heap.size w w' → wpList P ops Q rest (a.put o.dst v') w') : wpList P ops Q (o :: rest) a w := by
  obtain ⟨v', w', hr, h1, h2, h3⟩ := bt_bytes (P := P) w src dst e s hl hs hd he
  exact wpList_convert_ok hgd src dst x ho _ hx v' w' hr (h v' w' h1 h2 h3)
/-- '[]byte(s)', behind a guard that lets it by. -/
theorem wpList_bytes_g {ops : Array Oper} {rest : List Oper} {o : Oper} {a : Act} {w : World} {Q : Exit → Act → World → Prop} (hw : Region.wanted o (yielded ops a.tmps) = true) (src dst : TypeId) (x : Operand)
    (ho : o.op = .convert src dst x) (e : TypeId) (hs : P.underlying src = some .string) (hd : P.underlying dst = some (.slice e)) (he : P.underlying e = some (.int .u8)) (s : ByteArray) (hx : a.eval x = .string s)
    (hl : s.size ≤ 9223372036854775807)
    (h : ∀ v' w', Bt w' v' (byt s) → w.heap.size + 1 = w'.heap.size → Below w.heap.size w w' → wpList P ops Q rest (a.put o.dst v') w') : wpList P ops Q (o :: rest) a w := by
  obtain ⟨v', w', hr, h1, h2, h3⟩ := bt_bytes (P := P) w src dst e s hl hs hd he
  refine wpList_step fun K hK => ?_
  rw [if_pos hw]
  unfold Oper.wp execOp
  simp only [ho, hx, hr, Sem.run_bind, Sem.run_pure, Result.andThen_ok]
  exact hK _ _ (h v' w' h1 h2 h3)
/-- 'string(b)'. -/
theorem run_text {w : World} {src dst e : TypeId} {a : Option Addr} {c : Nat} {xs : List Int} (h : BRd w a xs) (hf : Fits a xs c) (hs : P.underlying src = some (.slice e)) (he : P.underlying e = some (.int .u8)) (hd : P.underlying dst = some .string) :
    (convert src dst (.slice a xs.length c)).run P w = .ok (.string (txt xs)) w := by
  rw [run_convert_bytes_string w src dst e _ _ _ hs he hd]
  cases a with
  | none =>
    have : xs = [] := by
      rcases h.2 with h0 | ⟨g, off, ha, _⟩
      · exact h0
      · cases ha
    subst this
    rfl
  | some ad =>
    rw [← txt_fold]
    refine run_bytesToString w _ _ _ xs ?_
    have := run_loadCells_list (P := P) (w := w) ad (u8v xs) (brd_news h)
    simpa [u8v] using this
end
end Go.Proofs.Ytllcmapgigfgoaa
