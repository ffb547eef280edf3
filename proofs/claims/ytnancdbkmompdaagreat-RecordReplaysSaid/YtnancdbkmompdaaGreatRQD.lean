/-
  Texts put together: CdM, Row, Bk.
-/
import Derived.Test.YtnancdbkmompdaaGreatRY
import Derived.Test.YtnancdbkmompdaaGreatRQC
import Derived.Test.YtnancdbkmompdaaGreatRQA
import Derived.Laws.MakeOwn
namespace Go.Proofs.YtnancdbkmompdaaGreat
set_option linter.unusedSimpArgs false
set_option linter.unusedVariables false
set_option maxRecDepth 100000
set_option maxHeartbeats 40000000
/-- A field: a number, a text, a list's length. -/
inductive Fd where
 | num (n : Int)
 | txt (s : ByteArray)
 | cnt (n : Nat)
def Fd.ok : Fd → Prop
 | .num n => okN n
 | .txt s => s.size ≤ 4096
 | .cnt n => n ≤ 1024
instance (f : Fd) : Decidable f.ok := by cases f <;> (unfold Fd.ok; infer_instance)
def Fd.enc : Fd → List Int
 | .num n => Go.Proofs.YtnancdbkmompdaaGreat.enc n
 | .txt s => Go.Proofs.YtnancdbkmompdaaGreat.enc s.size ++ byt s
 | .cnt n => Go.Proofs.YtnancdbkmompdaaGreat.enc n
/-- What a writer's bytes become: none where it is spoilt. -/
def wr1 (st : Option (List Int)) (f : Fd) : Option (List Int) := st.bind fun xs => if f.ok then some (xs ++ f.enc) else none
def wrs (st : Option (List Int)) (l : List Fd) : Option (List Int) := l.foldl wr1 st
theorem wrs_app (st : Option (List Int)) (l k : List Fd) : wrs st (l ++ k) = wrs (wrs st l) k := by simp [wrs]
theorem wrs_cons (st : Option (List Int)) (f : Fd) (k : List Fd) : wrs st (f :: k) = wrs (wr1 st f) k := rfl
theorem wrs_none (l : List Fd) : wrs none l = none := by
 induction l with
 | nil => rfl
 | cons f l ih => rw [wrs_cons]; exact ih
def Oks (l : List Fd) : Prop := ∀ f ∈ l, f.ok
def eF (l : List Fd) : List Int := l.flatMap Fd.enc
theorem eF_app (l k : List Fd) : eF (l ++ k) = eF l ++ eF k := by simp [eF]
theorem eF_cons (f : Fd) (k : List Fd) : eF (f :: k) = f.enc ++ eF k := by simp [eF]
theorem oks_app (l k : List Fd) : Oks (l ++ k) ↔ Oks l ∧ Oks k := by
 unfold Oks
 simp only [List.mem_append]
 exact ⟨fun h => ⟨fun f hf => h f (.inl hf), fun f hf => h f (.inr hf)⟩, fun h f hf => hf.elim (h.1 f) (h.2 f)⟩
theorem oks_cons (f : Fd) (k : List Fd) : Oks (f :: k) ↔ f.ok ∧ Oks k := by
 unfold Oks
 simp only [List.mem_cons]
 exact ⟨fun h => ⟨h f (.inl rfl), fun g hg => h g (.inr hg)⟩, fun h g hg => by
  rcases hg with rfl | hg
  ·exact h.1
  ·exact h.2 g hg⟩
theorem wrs_ok : ∀ (l : List Fd) (xs : List Int), Oks l → wrs (some xs) l = some (xs ++ eF l)
 | [], xs, _ => by simp [wrs, eF]
 | f :: l, xs, h => by
  rw [oks_cons] at h
  rw [wrs_cons, eF_cons, ← List.append_assoc, ← wrs_ok l _ h.2]
  simp [wr1, h.1]
theorem wrs_bad : ∀ (l : List Fd) (xs : List Int), ¬ Oks l → wrs (some xs) l = none
 | [], xs, h => absurd (fun f hf => by cases hf) h
 | f :: l, xs, h => by
  rw [wrs_cons]
  by_cases q : f.ok
  ·have e : wr1 (some xs) f = some (xs ++ f.enc) := by simp [wr1, q]
   rw [e]
   exact wrs_bad l _ (fun z => h ((oks_cons f l).2 ⟨q, z⟩))
  ·have e : wr1 (some xs) f = none := by simp [wr1, q]
   rw [e]
   exact wrs_none l
theorem enc_byte (n : Int) (h : okN n) : ∀ x ∈ enc n, 0 ≤ x ∧ x ≤ 255 := encN_bytes 8 n h.1
theorem okN_nat {n : Nat} (h : n ≤ 100000000) : okN (n : Int) := ⟨by omega, by omega⟩
theorem Fd.byte {f : Fd} (h : f.ok) : ∀ x ∈ f.enc, 0 ≤ x ∧ x ≤ 255 := by
 cases f with
 | num n => exact enc_byte n h
 | txt s =>
  intro x hx
  unfold Fd.ok at h
  unfold Fd.enc at hx
  rcases List.mem_append.1 hx with q | q
  ·exact enc_byte _ (okN_nat (by omega)) x q
  ·exact byt_range s x q
 | cnt n => unfold Fd.ok at h; exact enc_byte _ (okN_nat (by omega))
theorem eF_byte {l : List Fd} (h : Oks l) : ∀ x ∈ eF l, 0 ≤ x ∧ x ≤ 255 := by
 intro x hx
 unfold eF at hx
 rw [List.mem_flatMap] at hx
 obtain ⟨f, hf, hx⟩ := hx
 exact Fd.byte (h f hf) x hx
theorem enc_max (n : Int) : (enc n).length ≤ 8 := enc_len8 n
def Fd.cost : Fd → Nat
 | .num _ => 8
 | .txt s => 8 + s.size
 | .cnt _ => 8
theorem Fd.enc_le (f : Fd) : f.enc.length ≤ f.cost := by
 cases f with
 | num n => exact enc_max n
 | txt s =>
  show (Go.Proofs.YtnancdbkmompdaaGreat.enc s.size ++ byt s).length ≤ 8 + s.size
  rw [List.length_append, byt_length]
  have := enc_max (s.size : Int)
  omega
 | cnt n => exact enc_max n
/-- What a reader has left, and what is wrong. -/
abbrev RSt := List Int × Int
def gNum (s : RSt) : Int × RSt := if s.2 ≠ 0 then (0, s) else ((numG 8 0 0 s.1).1, (s.1.drop (numG 8 0 0 s.1).2.1.toNat, (numG 8 0 0 s.1).2.2))
def gTxt (s : RSt) : ByteArray × RSt := if s.2 ≠ 0 then (⟨#[]⟩, s) else (txt (textN 4096 s.1).1, ((textN 4096 s.1).2.1, (textN 4096 s.1).2.2))
def gCnt (s : RSt) : Nat × RSt := if 1024 < (gNum s).1 then (0, ((gNum s).2.1, 13)) else ((gNum s).1.toNat, (gNum s).2)
def gList {α : Type} (g : RSt → α × RSt) : Nat → RSt → List α × RSt
 | 0, s => ([], s)
 | n + 1, s => ((g s).1 :: (gList g n (g s).2).1, (gList g n (g s).2).2)
def BytL (xs : List Int) : Prop := ∀ x ∈ xs, 0 ≤ x ∧ x ≤ 255
theorem numG_cut : ∀ (g f i : Nat) (acc m : Int) (ys zs : List Int), 0 ≤ m → encN g m = ys ++ zs → zs ≠ [] → ys.length < f → m < 128 ^ g → numG f i acc ys = (0, 0, 10)
 | _, 0, _, _, _, _, _, _, _, _, h, _ => by omega
 | _, f + 1, i, acc, m, [], zs, _, _, _, _, _ => rfl
 | 0, f + 1, i, acc, m, y :: ys, zs, h0, h, hz, hf, hm => by simp [encN] at h
 | g + 1, f + 1, i, acc, m, y :: ys, zs, h0, h, hz, hf, hm => by
  rw [encN_succ] at h
  by_cases q : m < 128
  ·rw [if_pos q] at h
   simp only [List.cons_append, List.cons.injEq] at h
   have := congrArg List.length h.2
   have hz2 := List.length_pos_iff.2 hz
   simp at this
   omega
  ·rw [if_neg q] at h
   simp only [List.cons_append, List.cons.injEq] at h
   unfold numG
   rw [if_pos (by omega)]
   exact numG_cut g f (i + 1) _ (m / 128) ys zs (by omega) h.2 hz (by simp at hf; omega) (by rw [Int.pow_succ] at hm; omega)
theorem num_cut {n : Int} (h : okN n) {ys zs : List Int} (he : enc n = ys ++ zs) (hz : zs ≠ []) : numG 8 0 0 ys = (0, 0, 10) := by
 have p : (128 : Int) ^ 8 = 72057594037927936 := by decide
 have hl := congrArg List.length he
 have h8 := enc_max n
 have hz2 := List.length_pos_iff.2 hz
 simp at hl
 exact numG_cut 8 8 0 0 n ys zs h.1 he hz (by omega) (by rw [p]; have := h.2; omega)
/-- A way to write and to read things. -/
structure Cod (α : Type) where
 rd : RSt → α × RSt
 fs : α → List Fd
 back : ∀ x R, Oks (fs x) → rd (eF (fs x) ++ R, 0) = (x, (R, 0))
 inv : ∀ xs, BytL xs → (rd (xs, 0)).2.2 = 0 → Oks (fs (rd (xs, 0)).1) ∧ xs = eF (fs (rd (xs, 0)).1) ++ (rd (xs, 0)).2.1
 err : ∀ xs er, er ≠ 0 → (rd (xs, er)).2 = (xs, er)
 short : ∀ x ys zs, Oks (fs x) → eF (fs x) = ys ++ zs → zs ≠ [] → (rd (ys, 0)).2.2 = 10
theorem eF_one (f : Fd) : eF [f] = f.enc := by simp [eF]
theorem oks_one (f : Fd) : Oks [f] ↔ f.ok := by simp [Oks]
theorem BytL.drop {xs : List Int} (h : BytL xs) (n : Nat) : BytL (xs.drop n) := fun x hx => h x (List.mem_of_mem_drop hx)
theorem BytL.app {xs ys : List Int} (h : BytL (xs ++ ys)) : BytL xs ∧ BytL ys := ⟨fun x hx => h x (List.mem_append_left _ hx), fun x hx => h x (List.mem_append_right _ hx)⟩
theorem gNum_inv (xs : List Int) (hb : BytL xs) (h : (gNum (xs, 0)).2.2 = 0) : okN (gNum (xs, 0)).1 ∧ xs = enc (gNum (xs, 0)).1 ++ (gNum (xs, 0)).2.1 := by
 unfold gNum at h ⊢
 rw [if_neg (by simp)] at h ⊢
 try simp only at h ⊢
 obtain ⟨m, h1, h2, h3, h4, h5, h6⟩ := numG_enc xs hb h
 refine ⟨h4, ?_⟩
 rw [h5, h3, Int.toNat_natCast, List.take_append_drop]
def numC : Cod Int where
 rd := gNum
 fs := fun n => [.num n]
 back := fun n R h => by
  have h' : okN n := (oks_one _).1 h
  have e := numG_back n R h'
  have hl := enc_length n h'.1 h'.2
  rw [eF_one]
  show gNum (enc n ++ R, 0) = _
  unfold gNum
  rw [if_neg (by simp)]
  try simp only
  rw [e]
  try simp only
  have : (sizeN n).toNat = (enc n).length := by omega
  rw [this, List.drop_left]
 inv := fun xs hb h => by
  have := gNum_inv xs hb h
  exact ⟨(oks_one _).2 this.1, by rw [eF_one]; exact this.2⟩
 err := fun xs er h => by unfold gNum; rw [if_pos h]
 short := fun n ys zs h e hz => by
  have h' : okN n := (oks_one _).1 h
  rw [eF_one] at e
  unfold gNum
  rw [if_neg (by simp)]
  try simp only
  rw [num_cut h' e hz]
theorem gTxt_inv (xs : List Int) (hb : BytL xs) (h : (gTxt (xs, 0)).2.2 = 0) : (gTxt (xs, 0)).1.size ≤ 4096 ∧ xs = (enc (gTxt (xs, 0)).1.size ++ byt (gTxt (xs, 0)).1) ++ (gTxt (xs, 0)).2.1 := by
 unfold gTxt at h ⊢
 rw [if_neg (by simp)] at h ⊢
 try simp only at h ⊢
 unfold textN at h ⊢
 by_cases q1 : (numG 8 0 0 xs).2.2 ≠ 0
 ·rw [if_pos q1] at h; exact absurd h q1
 rw [if_neg q1] at h ⊢
 by_cases q2 : 4096 < (numG 8 0 0 xs).1
 ·rw [if_pos q2] at h; simp at h
 rw [if_neg q2] at h ⊢
 by_cases q3 : (xs.length : Int) - (numG 8 0 0 xs).2.1 < (numG 8 0 0 xs).1
 ·rw [if_pos q3] at h; simp at h
 rw [if_neg q3] at h ⊢
 obtain ⟨m, h1, h2, h3, h4, h5, h6⟩ := numG_enc xs hb (by simpa using q1)
 rw [h3] at q3 ⊢
 obtain ⟨N, hN⟩ : ∃ N : Nat, (numG 8 0 0 xs).1 = (N : Int) := ⟨(numG 8 0 0 xs).1.toNat, by have := h4.1; omega⟩
 rw [hN] at q2 q3 h5 ⊢
 simp only [Int.toNat_natCast]
 have hl : ((xs.drop m).take N).length = N := by rw [List.length_take, List.length_drop]; omega
 have hby : byt (txt ((xs.drop m).take N)) = (xs.drop m).take N := byt_txt (fun x hx => hb x (List.mem_of_mem_drop (List.mem_of_mem_take hx)))
 have hsz : (txt ((xs.drop m).take N)).size = N := by rw [txt_size, hl]
 rw [hsz, hby, h5]
 refine ⟨by omega, ?_⟩
 rw [List.append_assoc, ← List.drop_drop, List.take_append_drop, List.take_append_drop]
def txtC : Cod ByteArray where
 rd := gTxt
 fs := fun s => [.txt s]
 back := fun s R h => by
  have h' : s.size ≤ 4096 := (oks_one _).1 h
  rw [eF_one]
  show gTxt ((enc s.size ++ byt s) ++ R, 0) = _
  unfold gTxt
  rw [if_neg (by simp)]
  try simp only
  rw [textN_back s R 4096 (by omega) (by omega)]
  try simp only
  rw [txt_byt]
 inv := fun xs hb h => by
  have := gTxt_inv xs hb h
  exact ⟨(oks_one _).2 this.1, by rw [eF_one]; exact this.2⟩
 err := fun xs er h => by unfold gTxt; rw [if_pos h]
 short := fun s ys zs h e hz => by
  have h' : s.size ≤ 4096 := (oks_one _).1 h
  rw [eF_one] at e
  have e' : enc s.size ++ byt s = ys ++ zs := e
  unfold gTxt
  rw [if_neg (by simp)]
  try simp only
  have ok : okN (s.size : Int) := okN_nat (by omega)
  by_cases q : ys.length < (enc s.size).length
  ·have : enc s.size = ys ++ (enc s.size).drop ys.length := by
    have h1 := congrArg (List.take ys.length) e'
    rw [List.take_left, List.take_append_of_le_length (by omega)] at h1
    conv => lhs; rw [← List.take_append_drop ys.length (enc s.size), h1]
   have hz2 : (enc s.size).drop ys.length ≠ [] := by
    intro c
    have := congrArg List.length c
    simp at this
    omega
   have := num_cut ok this hz2
   unfold textN
   rw [this]
   simp
  ·have h1 : ys = enc s.size ++ ys.drop (enc s.size).length := by
    have h1 := congrArg (List.take (enc s.size).length) e'
    rw [List.take_left, List.take_append_of_le_length (by omega)] at h1
    conv => lhs; rw [← List.take_append_drop (enc s.size).length ys, ← h1]
   have hn := numG_back s.size (ys.drop (enc s.size).length) ok
   rw [← h1] at hn
   have hl := enc_length s.size ok.1 ok.2
   have hlen := congrArg List.length e'
   simp [byt_length] at hlen
   have hzl := List.length_pos_iff.2 hz
   unfold textN
   rw [hn]
   try simp only
   rw [if_neg (by simp), if_neg (by omega), if_pos (by omega)]
def pairC {α β : Type} (A : Cod α) (B : Cod β) : Cod (α × β) where
 rd := fun s => (((A.rd s).1, (B.rd (A.rd s).2).1), (B.rd (A.rd s).2).2)
 fs := fun x => A.fs x.1 ++ B.fs x.2
 back := fun x R h => by
  rw [oks_app] at h
  try simp only
  rw [eF_app, List.append_assoc, A.back x.1 _ h.1]
  try simp only
  rw [B.back x.2 _ h.2]
 inv := fun xs hb h => by
  try simp only at h ⊢
  have hA : (A.rd (xs, 0)).2.2 = 0 := by
   by_cases q : (A.rd (xs, 0)).2.2 = 0
   ·exact q
   ·have e : (A.rd (xs, 0)).2 = ((A.rd (xs, 0)).2.1, (A.rd (xs, 0)).2.2) := rfl
    rw [e, B.err _ _ q] at h
    exact h
  obtain ⟨a1, a2⟩ := A.inv xs hb hA
  have e : (A.rd (xs, 0)).2 = ((A.rd (xs, 0)).2.1, 0) := Prod.ext rfl hA
  rw [e] at h ⊢
  rw [a2] at hb
  obtain ⟨b1, b2⟩ := B.inv _ hb.app.2 h
  refine ⟨(oks_app _ _).2 ⟨a1, b1⟩, ?_⟩
  rw [eF_app, List.append_assoc, ← b2, ← a2]
 err := fun xs er h => by
  try simp only
  rw [A.err xs er h, B.err xs er h]
 short := fun x ys zs h e hz => by
  rw [oks_app] at h
  rw [eF_app] at e
  try simp only
  by_cases q : ys.length < (eF (A.fs x.1)).length
  ·have h1 := congrArg (List.take ys.length) e
   rw [List.take_left, List.take_append_of_le_length (by omega)] at h1
   have h2 : eF (A.fs x.1) = ys ++ (eF (A.fs x.1)).drop ys.length := by
    conv => lhs; rw [← List.take_append_drop ys.length (eF (A.fs x.1)), h1]
   have hz2 : (eF (A.fs x.1)).drop ys.length ≠ [] := by
    intro c
    have := congrArg List.length c
    simp at this
    omega
   have h3 := A.short x.1 ys _ h.1 h2 hz2
   have e2 : (A.rd (ys, 0)).2 = ((A.rd (ys, 0)).2.1, 10) := Prod.ext rfl h3
   rw [e2, B.err _ _ (by decide)]
  ·have h1 := congrArg (List.take (eF (A.fs x.1)).length) e
   rw [List.take_left, List.take_append_of_le_length (by omega)] at h1
   have h2 : ys = eF (A.fs x.1) ++ ys.drop (eF (A.fs x.1)).length := by
    conv => lhs; rw [← List.take_append_drop (eF (A.fs x.1)).length ys, ← h1]
   rw [h2, List.append_assoc] at e
   have e3 := List.append_cancel_left e
   rw [h2, A.back x.1 _ h.1]
   try simp only
   exact B.short x.2 _ zs h.2 e3 hz
theorem gList_err {α : Type} (A : Cod α) : ∀ (n : Nat) (xs : List Int) (er : Int), er ≠ 0 → (gList A.rd n (xs, er)).2 = (xs, er)
 | 0, xs, er, h => rfl
 | n + 1, xs, er, h => by
  unfold gList
  try simp only
  rw [A.err xs er h]
  exact gList_err A n xs er h
theorem gList_back {α : Type} (A : Cod α) : ∀ (l : List α) (R : List Int), Oks (l.flatMap A.fs) → gList A.rd l.length (eF (l.flatMap A.fs) ++ R, 0) = (l, (R, 0))
 | [], R, h => by simp [gList, eF]
 | x :: l, R, h => by
  rw [List.flatMap_cons, oks_app] at h
  rw [List.flatMap_cons, eF_app, List.append_assoc, List.length_cons]
  unfold gList
  try simp only
  rw [A.back x _ h.1]
  try simp only
  rw [gList_back A l R h.2]
theorem gList_len {α : Type} (g : RSt → α × RSt) : ∀ (n : Nat) (s : RSt), (gList g n s).1.length = n
 | 0, s => rfl
 | n + 1, s => by unfold gList; simp [gList_len g n]
theorem gList_inv {α : Type} (A : Cod α) : ∀ (n : Nat) (xs : List Int), BytL xs → (gList A.rd n (xs, 0)).2.2 = 0 → Oks ((gList A.rd n (xs, 0)).1.flatMap A.fs) ∧ xs = eF ((gList A.rd n (xs, 0)).1.flatMap A.fs) ++ (gList A.rd n (xs, 0)).2.1
 | 0, xs, hb, h => ⟨fun f hf => by simp [gList] at hf, by simp [gList, eF]⟩
 | n + 1, xs, hb, h => by
  unfold gList at h ⊢
  try simp only at h ⊢
  have hA : (A.rd (xs, 0)).2.2 = 0 := by
   by_cases q : (A.rd (xs, 0)).2.2 = 0
   ·exact q
   ·have e : (A.rd (xs, 0)).2 = ((A.rd (xs, 0)).2.1, (A.rd (xs, 0)).2.2) := rfl
    rw [e, gList_err A n _ _ q] at h
    exact h
  obtain ⟨a1, a2⟩ := A.inv xs hb hA
  have e : (A.rd (xs, 0)).2 = ((A.rd (xs, 0)).2.1, 0) := Prod.ext rfl hA
  rw [e] at h ⊢
  rw [a2] at hb
  obtain ⟨b1, b2⟩ := gList_inv A n _ hb.app.2 h
  rw [List.flatMap_cons]
  refine ⟨(oks_app _ _).2 ⟨a1, b1⟩, ?_⟩
  rw [eF_app, List.append_assoc, ← b2, ← a2]
theorem gList_short {α : Type} (A : Cod α) : ∀ (l : List α) (ys zs : List Int), Oks (l.flatMap A.fs) → eF (l.flatMap A.fs) = ys ++ zs → zs ≠ [] → (gList A.rd l.length (ys, 0)).2.2 = 10
 | [], ys, zs, h, e, hz => by simp [eF] at e; exact absurd e.2 hz
 | x :: l, ys, zs, h, e, hz => by
  rw [List.flatMap_cons, oks_app] at h
  rw [List.flatMap_cons, eF_app] at e
  rw [List.length_cons]
  unfold gList
  try simp only
  by_cases q : ys.length < (eF (A.fs x)).length
  ·have h1 := congrArg (List.take ys.length) e
   rw [List.take_left, List.take_append_of_le_length (by omega)] at h1
   have h2 : eF (A.fs x) = ys ++ (eF (A.fs x)).drop ys.length := by
    conv => lhs; rw [← List.take_append_drop ys.length (eF (A.fs x)), h1]
   have hz2 : (eF (A.fs x)).drop ys.length ≠ [] := by
    intro c
    have := congrArg List.length c
    simp at this
    omega
   have h3 := A.short x ys _ h.1 h2 hz2
   have e2 : (A.rd (ys, 0)).2 = ((A.rd (ys, 0)).2.1, 10) := Prod.ext rfl h3
   rw [e2, gList_err A _ _ _ (by decide)]
  ·have h1 := congrArg (List.take (eF (A.fs x)).length) e
   rw [List.take_left, List.take_append_of_le_length (by omega)] at h1
   have h2 : ys = eF (A.fs x) ++ ys.drop (eF (A.fs x)).length := by
    conv => lhs; rw [← List.take_append_drop (eF (A.fs x)).length ys, ← h1]
   rw [h2, List.append_assoc] at e
   have e3 := List.append_cancel_left e
   rw [h2, A.back x _ h.1]
   try simp only
   exact gList_short A l _ zs h.2 e3 hz
theorem gCnt_ok {s : RSt} (h : (gCnt s).2.2 = 0) : (gNum s).1 ≤ 1024 ∧ gCnt s = ((gNum s).1.toNat, (gNum s).2) := by
 unfold gCnt at h ⊢
 by_cases q : 1024 < (gNum s).1
 ·rw [if_pos q] at h; simp at h
 ·rw [if_neg q]
  exact ⟨by omega, rfl⟩
theorem gNum_back (n : Int) (R : List Int) (h' : okN n) : gNum (enc n ++ R, 0) = (n, (R, 0)) := by
 have e := numG_back n R h'
 have hl := enc_length n h'.1 h'.2
 unfold gNum
 rw [if_neg (by simp)]
 try simp only
 rw [e]
 try simp only
 have : (sizeN n).toNat = (enc n).length := by omega
 rw [this, List.drop_left]
theorem gCnt_back (n : Nat) (R : List Int) (h : n ≤ 1024) : gCnt (enc n ++ R, 0) = (n, (R, 0)) := by
 have hk : okN (n : Int) := ⟨by omega, by omega⟩
 unfold gCnt
 rw [gNum_back _ R hk]
 try simp only
 rw [if_neg (by omega), Int.toNat_natCast]
theorem gCnt_err {xs : List Int} {er : Int} (h : er ≠ 0) : gCnt (xs, er) = (0, (xs, er)) := by
 have e : gNum (xs, er) = (0, (xs, er)) := by unfold gNum; rw [if_pos h]
 unfold gCnt
 rw [e]
 simp
def listC {α : Type} (A : Cod α) : Cod (List α) where
 rd := fun s => gList A.rd (gCnt s).1 (gCnt s).2
 fs := fun l => .cnt l.length :: l.flatMap A.fs
 back := fun l R h => by
  rw [oks_cons] at h
  rw [eF_cons, List.append_assoc]
  try simp only
  rw [show (Fd.cnt l.length).enc = enc l.length from rfl, gCnt_back _ _ h.1]
  try simp only
  exact gList_back A l R h.2
 inv := fun xs hb h => by
  try simp only at h ⊢
  have hC : (gCnt (xs, 0)).2.2 = 0 := by
   by_cases q : (gCnt (xs, 0)).2.2 = 0
   ·exact q
   ·have e : (gCnt (xs, 0)).2 = ((gCnt (xs, 0)).2.1, (gCnt (xs, 0)).2.2) := rfl
    rw [e, gList_err A _ _ _ q] at h
    exact h
  obtain ⟨c1, c2⟩ := gCnt_ok hC
  rw [c2] at hC h ⊢
  simp only at hC h ⊢
  obtain ⟨a1, a2⟩ := gNum_inv xs hb hC
  have e : (gNum (xs, 0)).2 = ((gNum (xs, 0)).2.1, 0) := Prod.ext rfl hC
  rw [e] at h ⊢
  rw [a2] at hb
  obtain ⟨b1, b2⟩ := gList_inv A _ _ hb.app.2 h
  rw [gList_len]
  refine ⟨(oks_cons _ _).2 ⟨by show (gNum (xs, 0)).1.toNat ≤ 1024; omega, b1⟩, ?_⟩
  rw [eF_cons, List.append_assoc, ← b2]
  show xs = enc ((gNum (xs, 0)).1.toNat : Int) ++ _
  rw [Int.toNat_of_nonneg a1.1]
  exact a2
 err := fun xs er h => by
  try simp only
  rw [gCnt_err h]
  rfl
 short := fun l ys zs h e hz => by
  rw [oks_cons] at h
  rw [eF_cons] at e
  have e' : enc l.length ++ eF (l.flatMap A.fs) = ys ++ zs := e
  have hl : l.length ≤ 1024 := h.1
  have ok : okN (l.length : Int) := okN_nat (by omega)
  try simp only
  by_cases q : ys.length < (enc l.length).length
  ·have h1 := congrArg (List.take ys.length) e'
   rw [List.take_left, List.take_append_of_le_length (by omega)] at h1
   have h2 : enc l.length = ys ++ (enc l.length).drop ys.length := by
    conv => lhs; rw [← List.take_append_drop ys.length (enc l.length), h1]
   have hz2 : (enc l.length).drop ys.length ≠ [] := by
    intro c
    have := congrArg List.length c
    simp at this
    omega
   have e2 : gNum (ys, 0) = (0, (ys, 10)) := by
    unfold gNum
    rw [if_neg (by simp)]
    try simp only
    rw [num_cut ok h2 hz2]
    rfl
   have e3 : gCnt (ys, 0) = (0, (ys, 10)) := by
    unfold gCnt
    rw [e2]
    simp
   rw [e3]
   rfl
  ·have h1 := congrArg (List.take (enc l.length).length) e'
   rw [List.take_left, List.take_append_of_le_length (by omega)] at h1
   have h2 : ys = enc l.length ++ ys.drop (enc l.length).length := by
    conv => lhs; rw [← List.take_append_drop (enc l.length).length ys, ← h1]
   rw [h2, List.append_assoc] at e'
   have e3 := List.append_cancel_left e'
   rw [h2, gCnt_back _ _ hl]
   try simp only
   exact gList_short A l _ zs h.2 e3 hz
end Go.Proofs.YtnancdbkmompdaaGreat
namespace Go.Proofs.YtnancdbkmompdaaGreat
open Go.RowKit
set_option linter.unusedSimpArgs false
set_option linter.unusedVariables false
set_option maxRecDepth 100000
set_option maxHeartbeats 40000000
/-- The cells of a block that was just laid. -/
theorem new_cell (w : World) (cs : Array Value) (t : TypeId) (j : Nat) : (w.alloc (.cells cs t)).cell? ⟨w.heap.size, j, none⟩ = cs[j]? := World.cell?_alloc_mark w cs t (0, 0) j
theorem old_cell (w : World) (o : Obj) (b j : Nat) (hb : b < w.heap.size) : (w.alloc o).cell? ⟨b, j, none⟩ = w.cell? ⟨b, j, none⟩ := ((Below.refl w.heap.size w).alloc (Nat.le_refl _) o).cell (p := ⟨b, j, none⟩) hb
theorem two_cells (w : World) (cs ds : Array Value) (t s : TypeId) : (∀ j, ((w.alloc (.cells cs t)).alloc (.cells ds s)).cell? ⟨w.heap.size, j, none⟩ = cs[j]?) ∧ (∀ j, ((w.alloc (.cells cs t)).alloc (.cells ds s)).cell? ⟨w.heap.size + 1, j, none⟩ = ds[j]?) := by
 refine ⟨fun j => ?_, fun j => ?_⟩
 ·rw [old_cell _ _ _ _ (by simp), new_cell]
 ·have h := new_cell (w.alloc (.cells cs t)) ds s j
  rwa [World.size_alloc] at h
/-- A kind of elements: the element's type, the slice's type, the cells. -/
structure Knd (P : Program) (α : Type) where
 T : TypeId
 S : TypeId
 k : Nat
 enc : α → List Value
 z : Value
 B : Nat
 len : ∀ x, (enc x).length = k
 one : ∀ x, ∀ v ∈ enc x, v.oneCell' = true
 und : P.underlying S = some (.slice T)
 info : (P.info? T).map (fun i => (i.zero, i.size, i.bytes)) = some (some z, k, B)
 zc : z.cells.size = k
 pos : 0 < k
 small : B ≤ 100000
 d : α
section
variable {P : Program} {α : Type} {ops : Array Oper} {rest : List Oper} {o : Oper} {a : Act} {w : World} {Q : Exit → Act → World → Prop} (K : Knd P α)
/-- All cells, one behind another. -/
def Knd.row (l : List α) : List Value := l.flatMap K.enc
theorem Knd.row_len (l : List α) : (K.row l).length = l.length * K.k := by
 induction l with
 | nil => simp [Knd.row]
 | cons c l ih =>
  unfold Knd.row at ih ⊢
  rw [List.flatMap_cons, List.length_append, ih, K.len, List.length_cons, Nat.add_mul]; omega
theorem Knd.row_app (l k : List α) : K.row (l ++ k) = K.row l ++ K.row k := by simp [Knd.row]
theorem Knd.row_one (l : List α) : ∀ u ∈ K.row l, u.oneCell' = true := by
 intro u hu
 unfold Knd.row at hu
 rw [List.mem_flatMap] at hu
 obtain ⟨c, _, hc⟩ := hu
 exact K.one c u hc
theorem Knd.row_at (l : List α) (i : Nat) (hi : i < l.length) (j : Nat) (hj : j < K.k) : (K.row l)[i * K.k + j]? = (K.enc (l.getD i K.d))[j]? := by
 induction l generalizing i with
 | nil => simp at hi
 | cons c l ih =>
  unfold Knd.row at ih ⊢
  rw [List.flatMap_cons]
  cases i with
  | zero => rw [Nat.zero_mul, Nat.zero_add, List.getElem?_append_left (by rw [K.len]; exact hj)]; rfl
  | succ i =>
   rw [List.getElem?_append_right (by rw [K.len, Nat.add_mul]; omega), K.len, show (i + 1) * K.k + j - K.k = i * K.k + j by rw [Nat.add_mul]; omega, ih i (by simpa using hi)]
   rfl
theorem Knd.row_flat (l : List α) (t : Nat) (ht : t < (K.row l).length) : (K.row l)[t]? = (K.enc (l.getD (t / K.k) K.d))[t % K.k]? := by
 rw [K.row_len] at ht
 have hp := K.pos
 have h1 : t / K.k < l.length := by rw [Nat.div_lt_iff_lt_mul hp]; exact ht
 have := K.row_at l (t / K.k) h1 (t % K.k) (Nat.mod_lt _ hp)
 rw [← this]
 congr 1
 have := Nat.div_add_mod t K.k
 rw [Nat.mul_comm] at this
 omega
/-- A row that can be read. -/
def Knd.Rd (w : World) (v : Value) (l : List α) : Prop :=
 ∃ a c, v = .slice a l.length c ∧ l.length ≤ maxLen ∧ (a = none → c = 0) ∧ (l = [] ∨ ∃ g off, a = some ⟨g, off, none⟩ ∧ g < w.heap.size ∧ ∀ t u, (K.row l)[t]? = some u → w.cell? ⟨g, off + t, none⟩ = some u)
variable {K}
theorem Knd.Rd.below {w w' : World} {v : Value} {l : List α} (h : K.Rd w v l) (hb : Below w.heap.size w w') : K.Rd w' v l := by
 obtain ⟨a, c, e, h1, h2, h3⟩ := h
 refine ⟨a, c, e, h1, h2, ?_⟩
 rcases h3 with h3 | ⟨g, off, ha, hg, hc⟩
 ·exact .inl h3
 ·exact .inr ⟨g, off, ha, by have := hb.size; omega, fun t u hu => by rw [hb.cell (p := ⟨g, off + t, none⟩) hg]; exact hc t u hu⟩
theorem Knd.Rd.nil (w : World) : K.Rd w (.slice none 0 0) [] := ⟨none, 0, rfl, Nat.zero_le _, fun _ => rfl, .inl rfl⟩
theorem Knd.Rd.len {w : World} {v : Value} {l : List α} (h : K.Rd w v l) : l.length ≤ maxLen := by obtain ⟨a, c, e, h1, _⟩ := h; exact h1
/-- Its elements' cells, one by one. -/
theorem Knd.Rd.at {w : World} {a : Option Addr} {n c : Nat} {l : List α} (h : K.Rd w (.slice a n c) l) (hl : l ≠ []) : n = l.length ∧ ∃ g off, a = some ⟨g, off, none⟩ ∧ g < w.heap.size ∧ ∀ i, i < n → ∀ j u, (K.enc (l.getD i K.d))[j]? = some u → w.cell? ⟨g, off + i * K.k + j, none⟩ = some u := by
 obtain ⟨a', c', e, h1, h2, h3⟩ := h
 simp only [Value.slice.injEq] at e
 obtain ⟨rfl, rfl, rfl⟩ := e
 rcases h3 with h3 | ⟨g, off, ha, hg, hc⟩
 ·exact absurd h3 hl
 ·refine ⟨rfl, g, off, ha, hg, fun i hi j u hu => ?_⟩
  have hj : j < K.k := by have := (List.getElem?_eq_some_iff.1 hu).1; rw [K.len] at this; exact this
  have := hc (i * K.k + j) u (by rw [K.row_at l i hi j hj]; exact hu)
  rwa [← Nat.add_assoc] at this
theorem Knd.Rd.slice {w : World} {v : Value} {l : List α} (h : K.Rd w v l) : ∃ a c, v = .slice a l.length c := by obtain ⟨a, c, e, _⟩ := h; exact ⟨a, c, e⟩
variable (K) in
/-- A row of one's own. -/
def Knd.Own (w : World) (base : Nat) (v : Value) (l : List α) : Prop := w.ownsRow base K.T K.k v l.length (K.row l)
theorem Knd.Own.nil (w : World) (base : Nat) : K.Own w base (.slice none 0 0) [] := ⟨by simp [Knd.row], .inl ⟨rfl, rfl⟩⟩
theorem Knd.Own.from {w : World} {base : Nat} {v : Value} {l : List α} (h : K.Own w base v l) : ∀ k, v.ownBlock = some k → base ≤ k := by
 intro k hk
 rcases h.2 with ⟨rfl, _⟩ | ⟨g, cap, cur, rfl, hg, _⟩
 ·cases hk
 ·simp [Value.ownBlock] at hk; omega
theorem Knd.Own.base {w : World} {b b2 : Nat} {v : Value} {l : List α} (h : K.Own w b v l) (hb : b2 ≤ b) : K.Own w b2 v l := by
 obtain ⟨h1, h2⟩ := h
 refine ⟨h1, ?_⟩
 rcases h2 with h2 | ⟨g, cap, cur, hv, hg, hr⟩
 ·exact .inl h2
 ·exact .inr ⟨g, cap, cur, hv, Nat.le_trans hb hg, hr⟩
theorem Knd.Own.slice {w : World} {base : Nat} {v : Value} {l : List α} (h : K.Own w base v l) : ∃ a c, v = .slice a l.length c := by
 rcases h.2 with ⟨rfl, h0⟩ | ⟨g, cap, cur, rfl, _⟩
 ·exact ⟨_, _, by rw [h0]⟩
 ·exact ⟨_, _, rfl⟩
theorem Knd.Own.keepB {w w' : World} {base : Nat} {v : Value} {l : List α} (h : K.Own w base v l) (hk : ∀ k, v.ownBlock = some k → w'.heap[k]? = w.heap[k]?) : K.Own w' base v l := by
 obtain ⟨h1, h2⟩ := h
 refine ⟨h1, ?_⟩
 rcases h2 with h2 | ⟨g, cap, cur, hv, hg, hh, hr⟩
 ·exact .inl h2
 ·exact .inr ⟨g, cap, cur, hv, hg, (hk g (by rw [hv]; rfl)).trans hh, hr⟩
theorem Knd.Own.blk {w : World} {base : Nat} {v : Value} {l : List α} (h : K.Own w base v l) : ∀ k, v.ownBlock = some k → k < w.heap.size ∧ ∃ cs fr, w.heap[k]? = some (.cells cs K.T fr) := by
 intro k hk
 rcases h.2 with ⟨rfl, _⟩ | ⟨g, cap, cur, rfl, hg, hh, _⟩
 ·cases hk
 ·simp [Value.ownBlock] at hk
  subst hk
  exact ⟨(Array.getElem?_eq_some_iff.1 hh).1, _, _, hh⟩
theorem Knd.Own.below {w w' : World} {base : Nat} {v : Value} {l : List α} (h : K.Own w base v l) (hb : Below w.heap.size w w') : K.Own w' base v l :=
 h.keepB fun k hk => hb.block k (h.blk k hk).1
theorem Knd.Own.rd {w : World} {base : Nat} {v : Value} {l : List α} (h : K.Own w base v l) : K.Rd w v l := by
 rcases h.2 with ⟨rfl, h0⟩ | ⟨g, cap, cur, rfl, hg, hh, hn, hm, hs, hx⟩
 ·rw [List.eq_nil_of_length_eq_zero h0]; exact Knd.Rd.nil w
 ·refine ⟨some ⟨g, 0, none⟩, cap, rfl, Nat.le_trans hn hm, (fun q => by cases q), .inr ⟨g, 0, rfl, (Array.getElem?_eq_some_iff.1 hh).1, fun t u hu => ?_⟩⟩
  have ht : t < (K.row l).length := (List.getElem?_eq_some_iff.1 hu).1
  rw [K.row_len] at ht
  have e1 : cur[t]? = some u := by
   have h1 : (cur.toList.take (l.length * K.k))[t]? = (K.row l)[t]? := by rw [hx]
   rw [List.getElem?_take, if_pos (by omega)] at h1
   rw [← Array.getElem?_toList, h1, hu]
  simp [World.cell?, hh, e1]
variable (K)
/-- An append of elements: its run. -/
theorem Knd.run_app {w : World} {base : Nat} {v : Value} {l : List α} (hown : K.Own w base v l) (vy : Value) (ks : List α) (hks : K.Rd w vy ks) (hnil : ∀ a, vy = .slice a ks.length 0 → True)
  (hl : l.length + ks.length ≤ 1000000) (hbase : base ≤ w.heap.size) (ty : TypeId) :
  ∃ v' w', (Builtin.append_ #[K.S, K.S] ty #[v, vy]).run P w = .ok v' w' ∧ K.Own w' base v' (l ++ ks) ∧ Below base w w' ∧ w.grownBy w' v.ownBlock ∧ (v' = .slice none 0 0 ↔ v = .slice none 0 0 ∧ ks.length = 0) := by
 obtain ⟨i0, hi, hz0, hz1, hz2⟩ := info_parts K.info
 obtain ⟨a, c, rfl, h1, h2, h3⟩ := hks
 cases a with
 | none =>
  have hk0 : ks = [] := by
   rcases h3 with h3 | ⟨g, off, ha, _⟩
   ·exact h3
   ·cases ha
  subst hk0
  have hc0 := h2 rfl
  subst hc0
  refine ⟨v, w, run_append_owned_none (P := P) (w := w) base K.S ty K.T i0 K.k K.und hi v l.length (K.row l) hown, by simpa using hown, Below.refl _ _, ⟨rfl, rfl, rfl, Nat.le_refl _, fun _ _ _ => rfl⟩, by simp⟩
 | some ad =>
  have hnews : ∀ j u, (K.row ks)[j]? = some u → w.cell? (ad.add j) = some u := by
   intro j u hj
   rcases h3 with h3 | ⟨g, off, ha, hg, hc⟩
   ·subst h3; simp [Knd.row] at hj
   ·simp only [Option.some.injEq] at ha
    subst ha
    have := hc j u hj
    by_cases h0 : j = 0
    ·subst h0; simpa [Addr.add] using this
    ·simpa [Addr.add, h0] using this
  have hs := K.small
  have hB : (l.length + ks.length) * K.B ≤ 140737488355328 := by
   have h2 : (l.length + ks.length) * K.B ≤ 1000000 * 100000 := Nat.mul_le_mul hl hs
   omega
  obtain ⟨v', w', hr, q1, q2, q3⟩ := run_append_own (P := P) w base K.S ty K.T i0 K.z K.k K.B K.und hi hz0 hz1 hz2 K.zc K.pos v l.length (K.row l) hown ad ks.length c (K.row ks) (K.row_len ks) hnews (K.row_one ks) (by unfold maxLen; omega) hB hbase
  refine ⟨v', w', hr, ?_, (Below.refl base w).grown q2 hbase hown.from, q2, q3⟩
  unfold Knd.Own
  rw [List.length_append, K.row_app]
  exact q1
/-- 'append(l, x...)'. -/
theorem Knd.app (hw : Region.wanted o (yielded ops a.tmps) = true) (s x : Operand) (ho : o.op = .call { callee := .builtin .append, args := #[s, x], argTypes := #[K.S, K.S] })
  (base : Nat) (v : Value) (l : List α) (hs : a.eval s = v) (hown : K.Own w base v l) (vy : Value) (ks : List α) (hx : a.eval x = vy) (hks : K.Rd w vy ks)
  (hl : l.length + ks.length ≤ 1000000) (hbase : base ≤ w.heap.size)
  (h : ∀ v' w', K.Own w' base v' (l ++ ks) → Below base w w' → w.grownBy w' v.ownBlock → (v' = .slice none 0 0 ↔ v = .slice none 0 0 ∧ ks.length = 0) → wpList P ops Q rest (a.put o.dst v') w') : wpList P ops Q (o :: rest) a w := by
 obtain ⟨v', w', hr, q1, q2, q3, q4⟩ := K.run_app hown vy ks hks (fun _ _ => trivial) hl hbase o.type
 refine wpList_value hw _ w' ?_ (h v' w' q1 q2 q3 q4)
 unfold execOp
 simp only [ho, resolve, invoke, builtin, Sem.run_bind, Sem.run_pure, Result.andThen_ok, List.map_toArray, List.map_cons, List.map_nil, hs, hx, hr]
/-- A block that was just laid holds one element. -/
theorem Knd.rd_box (x : α) (T : TypeId) (c : Nat) (w : World) : K.Rd (w.alloc (.cells (K.enc x).toArray T)) (.slice (some ⟨w.heap.size, 0, none⟩) 1 c) [x] := by
 refine ⟨_, _, rfl, by simp [maxLen], (fun q => by cases q), .inr ⟨w.heap.size, 0, rfl, by simp, fun t u hu => ?_⟩⟩
 have e : K.row [x] = K.enc x := by simp [Knd.row]
 rw [e] at hu
 have hh := heap_alloc_new w (.cells (K.enc x).toArray T)
 rw [cell_of_row _ _ (0 + t) _ _ _ hh]
 simpa using hu
theorem Knd.rd_boxAt (x : α) (T : TypeId) (c : Nat) (w : World) (g : Nat) (hg : w.heap.size = g) : K.Rd (w.alloc (.cells (K.enc x).toArray T)) (.slice (some ⟨g, 0, none⟩) 1 c) [x] := by
 subst hg
 exact K.rd_box x T c w
/-- A row that was just laid. -/
theorem Knd.rd_lit (l : List α) (T : TypeId) (n c : Nat) (hn : l.length = n) (hm : n ≤ maxLen) (w : World) (g : Nat) (hg : w.heap.size = g) : K.Rd (w.alloc (.cells (K.row l).toArray T)) (.slice (some ⟨g, 0, none⟩) n c) l := by
 subst hg
 subst hn
 refine ⟨_, _, rfl, hm, (fun q => by cases q), .inr ⟨w.heap.size, 0, rfl, by simp, fun t u hu => ?_⟩⟩
 have hh := heap_alloc_new w (.cells (K.row l).toArray T)
 rw [cell_of_row _ _ (0 + t) _ _ _ hh]
 simpa using hu
/-- 'make([]T, 0, c)'. -/
theorem Knd.make (hw : Region.wanted o (yielded ops a.tmps) = true) (x y : Operand) (ho : o.op = .makeSlice K.S x y) (hx : a.eval x = .int .i64 0) (c : Nat) (hy : a.eval y = .int .i64 (c : Int)) (hc : c ≤ 1000000) (base : Nat) (hbase : base ≤ w.heap.size)
  (h : ∀ v' w', K.Own w' base v' [] → Below w.heap.size w w' → v' ≠ .slice none 0 0 → w.grownBy w' none → wpList P ops Q rest (a.put o.dst v') w') : wpList P ops Q (o :: rest) a w := by
 obtain ⟨i0, hi, hz0, hz1, hz2⟩ := info_parts K.info
 have hs := K.small
 have hB : i0.bytes * c ≤ 281474976710656 := by
  rw [hz2]
  have h2 : K.B * c ≤ 100000 * 1000000 := Nat.mul_le_mul hs hc
  omega
 obtain ⟨w', hr, h1, h2⟩ := run_make_own (P := P) w base K.S K.T i0 K.z K.k K.und hi hz0 hz1 .i64 .i64 c hB (by unfold maxLen; omega) hbase
 refine wpList_value hw _ w' ?_ (h _ w' h1 ((Below.refl _ w).grown h2 (Nat.le_refl _) (fun k e => by cases e)) (fun q => by cases q) h2)
 unfold execOp
 simp only [ho, hx, hy, hr, Sem.run_bind, Sem.run_pure, Result.andThen_ok]
end
/-- A block that holds just these. -/
def Bk (w : World) (b : Nat) (T : TypeId) (cs : List Value) : Prop := w.heap[b]? = some (.cells cs.toArray T (0, 0))
theorem Bk.lt {w : World} {b : Nat} {T : TypeId} {cs : List Value} (h : Bk w b T cs) : b < w.heap.size := (Array.getElem?_eq_some_iff.1 h).1
theorem Bk.on {w w' : World} {b N : Nat} {T : TypeId} {cs : List Value} (h : Bk w b T cs) (hb : Below N w w') (hN : b < N) : Bk w' b T cs := (hb.block b hN).trans h
theorem Bk.below {w w' : World} {b : Nat} {T : TypeId} {cs : List Value} (h : Bk w b T cs) (hb : Below w.heap.size w w') : Bk w' b T cs := h.on hb h.lt
theorem Bk.cell {w : World} {b : Nat} {T : TypeId} {cs : List Value} (h : Bk w b T cs) (j : Nat) : w.cell? ⟨b, j, none⟩ = cs[j]? := by
 have := cell_of_row w b j cs.toArray T (0, 0) h
 simpa using this
theorem Bk.fz {w : World} {b : Nat} {T : TypeId} {cs : List Value} (h : Bk w b T cs) (o : Nat) : w.frozen? ⟨b, o, none⟩ = false := by
 unfold World.frozen?
 rw [h]
 simp
theorem Bk.new (w : World) (T : TypeId) (cs : List Value) : Bk (w.alloc (.cells cs.toArray T)) w.heap.size T cs := heap_alloc_new w _
theorem Bk.old {w : World} {b : Nat} {T : TypeId} {cs : List Value} (h : Bk w b T cs) (o : Obj) : Bk (w.alloc o) b T cs := h.below ((Below.refl _ _).alloc (Nat.le_refl _) _)
theorem Bk.set {w : World} {b : Nat} {T : TypeId} {cs : List Value} (h : Bk w b T cs) (j : Nat) (u : Value) : Bk (w.setCell ⟨b, j, none⟩ u) b T (cs.set j u) := by
 have hlt := h.lt
 have h' : w.heap[b]? = some (.cells cs.toArray T (0, 0)) := h
 unfold Bk World.setCell
 simp only [Array.getElem?_modify, h', if_true, Option.map_some]
 simp
theorem Bk.other {w : World} {b b2 : Nat} {T : TypeId} {cs : List Value} (h : Bk w b T cs) (hne : b ≠ b2) (j : Nat) (u : Value) : Bk (w.setCell ⟨b2, j, none⟩ u) b T cs := (Below.heap_setCell w ⟨b2, j, none⟩ u b hne).trans h
end Go.Proofs.YtnancdbkmompdaaGreat
