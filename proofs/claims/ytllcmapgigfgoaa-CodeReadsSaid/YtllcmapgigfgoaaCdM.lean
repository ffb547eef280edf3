/-
  What is written and read, field by field: plain.
-/
import Derived.Test.YtllcmapgigfgoaaNumZ
namespace Go.Proofs.Ytllcmapgigfgoaa
set_option linter.unusedSimpArgs false
set_option linter.unusedVariables false

/-- A field: a number, a text, a list's length. -/
inductive Fd where
  | num (n : Int)
  | txt (s : ByteArray)
  | cnt (n : Nat)
def Fd.ok : Fd → Prop
  | .num n => okN n
  | .txt s => s.size ≤ 4096
  | .cnt n => n ≤ 1024
instance (f : Fd) : Decidable f.ok := by cases f <;> (unfold Fd.ok; infer_instance)
def Fd.enc : Fd → List Int
  | .num n => Go.Proofs.Ytllcmapgigfgoaa.enc n
  | .txt s => Go.Proofs.Ytllcmapgigfgoaa.enc s.size ++ byt s
  | .cnt n => Go.Proofs.Ytllcmapgigfgoaa.enc n
/-- What a writer's bytes become: none where it is spoilt. -/
def wr1 (st : Option (List Int)) (f : Fd) : Option (List Int) := st.bind fun xs => if f.ok then some (xs ++ f.enc) else none
def wrs (st : Option (List Int)) (l : List Fd) : Option (List Int) := l.foldl wr1 st
theorem wrs_app (st : Option (List Int)) (l k : List Fd) : wrs st (l ++ k) = wrs (wrs st l) k := by simp [wrs]
theorem wrs_cons (st : Option (List Int)) (f : Fd) (k : List Fd) : wrs st (f :: k) = wrs (wr1 st f) k := rfl
theorem wrs_none (l : List Fd) : wrs none l = none := by
  induction l with
  | nil => rfl
  | cons f l ih => rw [wrs_cons]; exact ih
def Oks (l : List Fd) : Prop := ∀ f ∈ l, f.ok
def eF (l : List Fd) : List Int := l.flatMap Fd.enc
theorem eF_app (l k : List Fd) : eF (l ++ k) = eF l ++ eF k := by simp [eF]
theorem eF_cons (f : Fd) (k : List Fd) : eF (f :: k) = f.enc ++ eF k := by simp [eF]
theorem oks_app (l k : List Fd) : Oks (l ++ k) ↔ Oks l ∧ Oks k := by
  unfold Oks
  simp only [List.mem_append]
  exact ⟨fun h => ⟨fun f hf => h f (.inl hf), fun f hf => h f (.inr hf)⟩, fun h f hf => hf.elim (h.1 f) (h.2 f)⟩
theorem oks_cons (f : Fd) (k : List Fd) : Oks (f :: k) ↔ f.ok ∧ Oks k := by
  unfold Oks
  simp only [List.mem_cons]
  exact ⟨fun h => ⟨h f (.inl rfl), fun g hg => h g (.inr hg)⟩, fun h g hg => by
    rcases hg with rfl | hg
    · exact h.1
    · exact h.2 g hg⟩
theorem wrs_ok : ∀ (l : List Fd) (xs : List Int), Oks l → wrs (some xs) l = some (xs ++ eF l)
  | [], xs, _ => by simp [wrs, eF]
  | f :: l, xs, h => by
    rw [oks_cons] at h
    rw [wrs_cons, eF_cons, ← List.append_assoc, ← wrs_ok l _ h.2]
    simp [wr1, h.1]
theorem wrs_bad : ∀ (l : List Fd) (xs : List Int), ¬ Oks l → wrs (some xs) l = none
  | [], xs, h => absurd (fun f hf => by cases hf) h
  | f :: l, xs, h => by
    rw [wrs_cons]
    by_cases q : f.ok
    · have e : wr1 (some xs) f = some (xs ++ f.enc) := by simp [wr1, q]
      rw [e]
      exact wrs_bad l _ (fun z => h ((oks_cons f l).2 ⟨q, z⟩))
    · have e : wr1 (some xs) f = none := by simp [wr1, q]
      rw [e]
      exact wrs_none l
theorem wrs_some {l : List Fd} {xs ys : List Int} (h : wrs (some xs) l = some ys) : Oks l ∧ ys = xs ++ eF l := by
  by_cases q : Oks l
  · rw [wrs_ok l xs q] at h
    exact ⟨q, by simpa using h.symm⟩
  · rw [wrs_bad l xs q] at h
    cases h
theorem enc_byte (n : Int) (h : okN n) : ∀ x ∈ enc n, 0 ≤ x ∧ x ≤ 255 := encN_bytes 8 n h.1
theorem okN_nat {n : Nat} (h : n ≤ 100000000) : okN (n : Int) := ⟨by omega, by omega⟩
theorem Fd.byte {f : Fd} (h : f.ok) : ∀ x ∈ f.enc, 0 ≤ x ∧ x ≤ 255 := by
  cases f with
  | num n => exact enc_byte n h
  | txt s =>
    intro x hx
    unfold Fd.ok at h
    unfold Fd.enc at hx
    rcases List.mem_append.1 hx with q | q
    · exact enc_byte _ (okN_nat (by omega)) x q
    · exact byt_range s x q
  | cnt n => unfold Fd.ok at h; exact enc_byte _ (okN_nat (by omega))
theorem eF_byte {l : List Fd} (h : Oks l) : ∀ x ∈ eF l, 0 ≤ x ∧ x ≤ 255 := by
  intro x hx
  unfold eF at hx
  rw [List.mem_flatMap] at hx
  obtain ⟨f, hf, hx⟩ := hx
  exact Fd.byte (h f hf) x hx
theorem enc_max (n : Int) : (enc n).length ≤ 8 := enc_len8 n
def Fd.cost : Fd → Nat
  | .num _ => 8
  | .txt s => 8 + s.size
  | .cnt _ => 8
def costs (l : List Fd) : Nat := (l.map Fd.cost).sum
theorem Fd.enc_le (f : Fd) : f.enc.length ≤ f.cost := by
  cases f with
  | num n => exact enc_max n
  | txt s =>
    show (Go.Proofs.Ytllcmapgigfgoaa.enc s.size ++ byt s).length ≤ 8 + s.size
    rw [List.length_append, byt_length]
    have := enc_max (s.size : Int)
    omega
  | cnt n => exact enc_max n
theorem eF_le (l : List Fd) : (eF l).length ≤ costs l := by
  induction l with
  | nil => simp [eF, costs]
  | cons f l ih =>
    rw [eF_cons, List.length_append]
    have := f.enc_le
    simp only [costs, List.map_cons, List.sum_cons] at ih ⊢
    omega
/-- What a reader has left, and what is wrong. -/
abbrev RSt := List Int × Int
def gNum (s : RSt) : Int × RSt := if s.2 ≠ 0 then (0, s) else ((numG 8 0 0 s.1).1, (s.1.drop (numG 8 0 0 s.1).2.1.toNat, (numG 8 0 0 s.1).2.2))
def gTxt (s : RSt) : ByteArray × RSt := if s.2 ≠ 0 then (⟨#[]⟩, s) else (txt (textN 4096 s.1).1, ((textN 4096 s.1).2.1, (textN 4096 s.1).2.2))
def gCnt (s : RSt) : Nat × RSt := if 1024 < (gNum s).1 then (0, ((gNum s).2.1, 13)) else ((gNum s).1.toNat, (gNum s).2)
def gList {α : Type} (g : RSt → α × RSt) : Nat → RSt → List α × RSt
  | 0, s => ([], s)
  | n + 1, s => ((g s).1 :: (gList g n (g s).2).1, (gList g n (g s).2).2)
def BytL (xs : List Int) : Prop := ∀ x ∈ xs, 0 ≤ x ∧ x ≤ 255
theorem numG_cut : ∀ (g f i : Nat) (acc m : Int) (ys zs : List Int), 0 ≤ m → encN g m = ys ++ zs → zs ≠ [] → ys.length < f → m < 128 ^ g → numG f i acc ys = (0, 0, 10)
  | _, 0, _, _, _, _, _, _, _, _, h, _ => by omega
  | _, f + 1, i, acc, m, [], zs, _, _, _, _, _ => rfl
  | 0, f + 1, i, acc, m, y :: ys, zs, h0, h, hz, hf, hm => by simp [encN] at h
  | g + 1, f + 1, i, acc, m, y :: ys, zs, h0, h, hz, hf, hm => by
    rw [encN_succ] at h
    by_cases q : m < 128
    · rw [if_pos q] at h
      simp only [List.cons_append, List.cons.injEq] at h
      have := congrArg List.length h.2
      have hz2 := List.length_pos_iff.2 hz
      simp at this
      omega
    · rw [if_neg q] at h
      simp only [List.cons_append, List.cons.injEq] at h
      unfold numG
      rw [if_pos (by omega)]
      exact numG_cut g f (i + 1) _ (m / 128) ys zs (by omega) h.2 hz (by simp at hf; omega) (by rw [Int.pow_succ] at hm; omega)
theorem num_cut {n : Int} (h : okN n) {ys zs : List Int} (he : enc n = ys ++ zs) (hz : zs ≠ []) : numG 8 0 0 ys = (0, 0, 10) := by
  have p : (128 : Int) ^ 8 = 72057594037927936 := by decide
  have hl := congrArg List.length he
  have h8 := enc_max n
  have hz2 := List.length_pos_iff.2 hz
  simp at hl
  exact numG_cut 8 8 0 0 n ys zs h.1 he hz (by omega) (by rw [p]; have := h.2; omega)
/-- A way to write and to read things. -/
structure Cod (α : Type) where
  rd : RSt → α × RSt
  fs : α → List Fd
  back : ∀ x R, Oks (fs x) → rd (eF (fs x) ++ R, 0) = (x, (R, 0))
  inv : ∀ xs, BytL xs → (rd (xs, 0)).2.2 = 0 → Oks (fs (rd (xs, 0)).1) ∧ xs = eF (fs (rd (xs, 0)).1) ++ (rd (xs, 0)).2.1
  err : ∀ xs er, er ≠ 0 → (rd (xs, er)).2 = (xs, er)
  short : ∀ x ys zs, Oks (fs x) → eF (fs x) = ys ++ zs → zs ≠ [] → (rd (ys, 0)).2.2 = 10
theorem eF_one (f : Fd) : eF [f] = f.enc := by simp [eF]
theorem oks_one (f : Fd) : Oks [f] ↔ f.ok := by simp [Oks]
theorem BytL.drop {xs : List Int} (h : BytL xs) (n : Nat) : BytL (xs.drop n) := fun x hx => h x (List.mem_of_mem_drop hx)
theorem BytL.app {xs ys : List Int} (h : BytL (xs ++ ys)) : BytL xs ∧ BytL ys := ⟨fun x hx => h x (List.mem_append_left _ hx), fun x hx => h x (List.mem_append_right _ hx)⟩
theorem gNum_inv (xs : List Int) (hb : BytL xs) (h : (gNum (xs, 0)).2.2 = 0) : okN (gNum (xs, 0)).1 ∧ xs = enc (gNum (xs, 0)).1 ++ (gNum (xs, 0)).2.1 := by
  unfold gNum at h ⊢
  rw [if_neg (by simp)] at h ⊢
  try simp only at h ⊢
  obtain ⟨m, h1, h2, h3, h4, h5, h6⟩ := numG_enc xs hb h
  refine ⟨h4, ?_⟩
  rw [h5, h3, Int.toNat_natCast, List.take_append_drop]
def numC : Cod Int where
  rd := gNum
  fs := fun n => [.num n]
  back := fun n R h => by
    have h' : okN n := (oks_one _).1 h
    have e := numG_back n R h'
    have hl := enc_length n h'.1 h'.2
    rw [eF_one]
    show gNum (enc n ++ R, 0) = _
    unfold gNum
    rw [if_neg (by simp)]
    try simp only
    rw [e]
    try simp only
    have : (sizeN n).toNat = (enc n).length := by omega
    rw [this, List.drop_left]
  inv := fun xs hb h => by
    have := gNum_inv xs hb h
    exact ⟨(oks_one _).2 this.1, by rw [eF_one]; exact this.2⟩
  err := fun xs er h => by unfold gNum; rw [if_pos h]
  short := fun n ys zs h e hz => by
    have h' : okN n := (oks_one _).1 h
    rw [eF_one] at e
    unfold gNum
    rw [if_neg (by simp)]
    try simp only
    rw [num_cut h' e hz]
theorem gTxt_inv (xs : List Int) (hb : BytL xs) (h : (gTxt (xs, 0)).2.2 = 0) : (gTxt (xs, 0)).1.size ≤ 4096 ∧ xs = (enc (gTxt (xs, 0)).1.size ++ byt (gTxt (xs, 0)).1) ++ (gTxt (xs, 0)).2.1 := by
  unfold gTxt at h ⊢
  rw [if_neg (by simp)] at h ⊢
  try simp only at h ⊢
  unfold textN at h ⊢
  by_cases q1 : (numG 8 0 0 xs).2.2 ≠ 0
  · rw [if_pos q1] at h; exact absurd h q1
  rw [if_neg q1] at h ⊢
  by_cases q2 : 4096 < (numG 8 0 0 xs).1
  · rw [if_pos q2] at h; simp at h
  rw [if_neg q2] at h ⊢
  by_cases q3 : (xs.length : Int) - (numG 8 0 0 xs).2.1 < (numG 8 0 0 xs).1
  · rw [if_pos q3] at h; simp at h
  rw [if_neg q3] at h ⊢
  obtain ⟨m, h1, h2, h3, h4, h5, h6⟩ := numG_enc xs hb (by simpa using q1)
  rw [h3] at q3 ⊢
  obtain ⟨N, hN⟩ : ∃ N : Nat, (numG 8 0 0 xs).1 = (N : Int) := ⟨(numG 8 0 0 xs).1.toNat, by have := h4.1; omega⟩
  rw [hN] at q2 q3 h5 ⊢
  simp only [Int.toNat_natCast]
  have hl : ((xs.drop m).take N).length = N := by rw [List.length_take, List.length_drop]; omega
  have hby : byt (txt ((xs.drop m).take N)) = (xs.drop m).take N := byt_txt (fun x hx => hb x (List.mem_of_mem_drop (List.mem_of_mem_take hx)))
  have hsz : (txt ((xs.drop m).take N)).size = N := by rw [txt_size, hl]
  rw [hsz, hby, h5]
  refine ⟨by omega, ?_⟩
  rw [List.append_assoc, ← List.drop_drop, List.take_append_drop, List.take_append_drop]
def txtC : Cod ByteArray where
  rd := gTxt
  fs := fun s => [.txt s]
  back := fun s R h => by
    have h' : s.size ≤ 4096 := (oks_one _).1 h
    rw [eF_one]
    show gTxt ((enc s.size ++ byt s) ++ R, 0) = _
    unfold gTxt
    rw [if_neg (by simp)]
    try simp only
    rw [textN_back s R 4096 (by omega) (by omega)]
    try simp only
    rw [txt_byt]
  inv := fun xs hb h => by
    have := gTxt_inv xs hb h
    exact ⟨(oks_one _).2 this.1, by rw [eF_one]; exact this.2⟩
  err := fun xs er h => by unfold gTxt; rw [if_pos h]
  short := fun s ys zs h e hz => by
    have h' : s.size ≤ 4096 := (oks_one _).1 h
    rw [eF_one] at e
    have e' : enc s.size ++ byt s = ys ++ zs := e
    unfold gTxt
    rw [if_neg (by simp)]
    try simp only
    have ok : okN (s.size : Int) := okN_nat (by omega)
    by_cases q : ys.length < (enc s.size).length
    · have : enc s.size = ys ++ (enc s.size).drop ys.length := by
        have h1 := congrArg (List.take ys.length) e'
        rw [List.take_left, List.take_append_of_le_length (by omega)] at h1
        conv => lhs; rw [← List.take_append_drop ys.length (enc s.size), h1]
      have hz2 : (enc s.size).drop ys.length ≠ [] := by
        intro c
        have := congrArg List.length c
        simp at this
        omega
      have := num_cut ok this hz2
      unfold textN
      rw [this]
      simp
    · have h1 : ys = enc s.size ++ ys.drop (enc s.size).length := by
        have h1 := congrArg (List.take (enc s.size).length) e'
        rw [List.take_left, List.take_append_of_le_length (by omega)] at h1
        conv => lhs; rw [← List.take_append_drop (enc s.size).length ys, ← h1]
      have hn := numG_back s.size (ys.drop (enc s.size).length) ok
      rw [← h1] at hn
      have hl := enc_length s.size ok.1 ok.2
      have hlen := congrArg List.length e'
      simp [byt_length] at hlen
      have hzl := List.length_pos_iff.2 hz
      unfold textN
      rw [hn]
      try simp only
      rw [if_neg (by simp), if_neg (by omega), if_pos (by omega)]
def pairC {α β : Type} (A : Cod α) (B : Cod β) : Cod (α × β) where
  rd := fun s => (((A.rd s).1, (B.rd (A.rd s).2).1), (B.rd (A.rd s).2).2)
  fs := fun x => A.fs x.1 ++ B.fs x.2
  back := fun x R h => by
    rw [oks_app] at h
    try simp only
    rw [eF_app, List.append_assoc, A.back x.1 _ h.1]
    try simp only
    rw [B.back x.2 _ h.2]
  inv := fun xs hb h => by
    try simp only at h ⊢
    have hA : (A.rd (xs, 0)).2.2 = 0 := by
      by_cases q : (A.rd (xs, 0)).2.2 = 0
      · exact q
      · have e : (A.rd (xs, 0)).2 = ((A.rd (xs, 0)).2.1, (A.rd (xs, 0)).2.2) := rfl
        rw [e, B.err _ _ q] at h
        exact h
    obtain ⟨a1, a2⟩ := A.inv xs hb hA
    have e : (A.rd (xs, 0)).2 = ((A.rd (xs, 0)).2.1, 0) := Prod.ext rfl hA
    rw [e] at h ⊢
    rw [a2] at hb
    obtain ⟨b1, b2⟩ := B.inv _ hb.app.2 h
    refine ⟨(oks_app _ _).2 ⟨a1, b1⟩, ?_⟩
    rw [eF_app, List.append_assoc, ← b2, ← a2]
  err := fun xs er h => by
    try simp only
    rw [A.err xs er h, B.err xs er h]
  short := fun x ys zs h e hz => by
    rw [oks_app] at h
    rw [eF_app] at e
    try simp only
    by_cases q : ys.length < (eF (A.fs x.1)).length
    · have h1 := congrArg (List.take ys.length) e
      rw [List.take_left, List.take_append_of_le_length (by omega)] at h1
      have h2 : eF (A.fs x.1) = ys ++ (eF (A.fs x.1)).drop ys.length := by
        conv => lhs; rw [← List.take_append_drop ys.length (eF (A.fs x.1)), h1]
      have hz2 : (eF (A.fs x.1)).drop ys.length ≠ [] := by
        intro c
        have := congrArg List.length c
        simp at this
        omega
      have h3 := A.short x.1 ys _ h.1 h2 hz2
      have e2 : (A.rd (ys, 0)).2 = ((A.rd (ys, 0)).2.1, 10) := Prod.ext rfl h3
      rw [e2, B.err _ _ (by decide)]
    · have h1 := congrArg (List.take (eF (A.fs x.1)).length) e
      rw [List.take_left, List.take_append_of_le_length (by omega)] at h1
      have h2 : ys = eF (A.fs x.1) ++ ys.drop (eF (A.fs x.1)).length := by
        conv => lhs; rw [← List.take_append_drop (eF (A.fs x.1)).length ys, ← h1]
      rw [h2, List.append_assoc] at e
      have e3 := List.append_cancel_left e
      rw [h2, A.back x.1 _ h.1]
      try simp only
      exact B.short x.2 _ zs h.2 e3 hz
def mapC {α β : Type} (A : Cod α) (f : α → β) (g : β → α) (fg : ∀ x, g (f x) = x) (gf : ∀ y, f (g y) = y) : Cod β where
  rd := fun s => (f (A.rd s).1, (A.rd s).2)
  fs := fun y => A.fs (g y)
  back := fun y R h => by
    try simp only
    rw [A.back (g y) R h, gf]
  inv := fun xs hb h => by
    try simp only at h ⊢
    rw [fg]
    exact A.inv xs hb h
  err := fun xs er h => A.err xs er h
  short := fun y ys zs h e hz => A.short (g y) ys zs h e hz
theorem gList_err {α : Type} (A : Cod α) : ∀ (n : Nat) (xs : List Int) (er : Int), er ≠ 0 → (gList A.rd n (xs, er)).2 = (xs, er)
  | 0, xs, er, h => rfl
  | n + 1, xs, er, h => by
    unfold gList
    try simp only
    rw [A.err xs er h]
    exact gList_err A n xs er h
theorem gList_back {α : Type} (A : Cod α) : ∀ (l : List α) (R : List Int), Oks (l.flatMap A.fs) → gList A.rd l.length (eF (l.flatMap A.fs) ++ R, 0) = (l, (R, 0))
  | [], R, h => by simp [gList, eF]
  | x :: l, R, h => by
    rw [List.flatMap_cons, oks_app] at h
    rw [List.flatMap_cons, eF_app, List.append_assoc, List.length_cons]
    unfold gList
    try simp only
    rw [A.back x _ h.1]
    try simp only
    rw [gList_back A l R h.2]
theorem gList_len {α : Type} (g : RSt → α × RSt) : ∀ (n : Nat) (s : RSt), (gList g n s).1.length = n
  | 0, s => rfl
  | n + 1, s => by unfold gList; simp [gList_len g n]
theorem gList_inv {α : Type} (A : Cod α) : ∀ (n : Nat) (xs : List Int), BytL xs → (gList A.rd n (xs, 0)).2.2 = 0 → Oks ((gList A.rd n (xs, 0)).1.flatMap A.fs) ∧ xs = eF ((gList A.rd n (xs, 0)).1.flatMap A.fs) ++ (gList A.rd n (xs, 0)).2.1
  | 0, xs, hb, h => ⟨fun f hf => by simp [gList] at hf, by simp [gList, eF]⟩
  | n + 1, xs, hb, h => by
    unfold gList at h ⊢
    try simp only at h ⊢
    have hA : (A.rd (xs, 0)).2.2 = 0 := by
      by_cases q : (A.rd (xs, 0)).2.2 = 0
      · exact q
      · have e : (A.rd (xs, 0)).2 = ((A.rd (xs, 0)).2.1, (A.rd (xs, 0)).2.2) := rfl
        rw [e, gList_err A n _ _ q] at h
        exact h
    obtain ⟨a1, a2⟩ := A.inv xs hb hA
    have e : (A.rd (xs, 0)).2 = ((A.rd (xs, 0)).2.1, 0) := Prod.ext rfl hA
    rw [e] at h ⊢
    rw [a2] at hb
    obtain ⟨b1, b2⟩ := gList_inv A n _ hb.app.2 h
    rw [List.flatMap_cons]
    refine ⟨(oks_app _ _).2 ⟨a1, b1⟩, ?_⟩
    rw [eF_app, List.append_assoc, ← b2, ← a2]
theorem gList_short {α : Type} (A : Cod α) : ∀ (l : List α) (ys zs : List Int), Oks (l.flatMap A.fs) → eF (l.flatMap A.fs) = ys ++ zs → zs ≠ [] → (gList A.rd l.length (ys, 0)).2.2 = 10
  | [], ys, zs, h, e, hz => by simp [eF] at e; exact absurd e.2 hz
  | x :: l, ys, zs, h, e, hz => by
    rw [List.flatMap_cons, oks_app] at h
    rw [List.flatMap_cons, eF_app] at e
    rw [List.length_cons]
    unfold gList
    try simp only
    by_cases q : ys.length < (eF (A.fs x)).length
    · have h1 := congrArg (List.take ys.length) e
      rw [List.take_left, List.take_append_of_le_length (by omega)] at h1
      have h2 : eF (A.fs x) = ys ++ (eF (A.fs x)).drop ys.length := by
        conv => lhs; rw [← List.take_append_drop ys.length (eF (A.fs x)), h1]
      have hz2 : (eF (A.fs x)).drop ys.length ≠ [] := by
        intro c
        have := congrArg List.length c
        simp at this
        omega
      have h3 := A.short x ys _ h.1 h2 hz2
      have e2 : (A.rd (ys, 0)).2 = ((A.rd (ys, 0)).2.1, 10) := Prod.ext rfl h3
      rw [e2, gList_err A _ _ _ (by decide)]
    · have h1 := congrArg (List.take (eF (A.fs x)).length) e
      rw [List.take_left, List.take_append_of_le_length (by omega)] at h1
      have h2 : ys = eF (A.fs x) ++ ys.drop (eF (A.fs x)).length := by
        conv => lhs; rw [← List.take_append_drop (eF (A.fs x)).length ys, ← h1]
      rw [h2, List.append_assoc] at e
      have e3 := List.append_cancel_left e
      rw [h2, A.back x _ h.1]
      try simp only
      exact gList_short A l _ zs h.2 e3 hz
theorem gCnt_ok {s : RSt} (h : (gCnt s).2.2 = 0) : (gNum s).1 ≤ 1024 ∧ gCnt s = ((gNum s).1.toNat, (gNum s).2) := by
  unfold gCnt at h ⊢
  by_cases q : 1024 < (gNum s).1
  · rw [if_pos q] at h; simp at h
  · rw [if_neg q]
    exact ⟨by omega, rfl⟩
theorem gNum_back (n : Int) (R : List Int) (h' : okN n) : gNum (enc n ++ R, 0) = (n, (R, 0)) := by
  have e := numG_back n R h'
  have hl := enc_length n h'.1 h'.2
  unfold gNum
  rw [if_neg (by simp)]
  try simp only
  rw [e]
  try simp only
  have : (sizeN n).toNat = (enc n).length := by omega
  rw [this, List.drop_left]
theorem gCnt_back (n : Nat) (R : List Int) (h : n ≤ 1024) : gCnt (enc n ++ R, 0) = (n, (R, 0)) := by
  have hk : okN (n : Int) := ⟨by omega, by omega⟩
  unfold gCnt
  rw [gNum_back _ R hk]
  try simp only
  rw [if_neg (by omega), Int.toNat_natCast]
theorem gCnt_err {xs : List Int} {er : Int} (h : er ≠ 0) : gCnt (xs, er) = (0, (xs, er)) := by
  have e : gNum (xs, er) = (0, (xs, er)) := by unfold gNum; rw [if_pos h]
  unfold gCnt
  rw [e]
  simp
def listC {α : Type} (A : Cod α) : Cod (List α) where
  rd := fun s => gList A.rd (gCnt s).1 (gCnt s).2
  fs := fun l => .cnt l.length :: l.flatMap A.fs
  back := fun l R h => by
    rw [oks_cons] at h
    rw [eF_cons, List.append_assoc]
    try simp only
    rw [show (Fd.cnt l.length).enc = enc l.length from rfl, gCnt_back _ _ h.1]
    try simp only
    exact gList_back A l R h.2
  inv := fun xs hb h => by
    try simp only at h ⊢
    have hC : (gCnt (xs, 0)).2.2 = 0 := by
      by_cases q : (gCnt (xs, 0)).2.2 = 0
      · exact q
      · have e : (gCnt (xs, 0)).2 = ((gCnt (xs, 0)).2.1, (gCnt (xs, 0)).2.2) := rfl
        rw [e, gList_err A _ _ _ q] at h
        exact h
    obtain ⟨c1, c2⟩ := gCnt_ok hC
    rw [c2] at hC h ⊢
    simp only at hC h ⊢
    obtain ⟨a1, a2⟩ := gNum_inv xs hb hC
    have e : (gNum (xs, 0)).2 = ((gNum (xs, 0)).2.1, 0) := Prod.ext rfl hC
    rw [e] at h ⊢
    rw [a2] at hb
    obtain ⟨b1, b2⟩ := gList_inv A _ _ hb.app.2 h
    rw [gList_len]
    refine ⟨(oks_cons _ _).2 ⟨by show (gNum (xs, 0)).1.toNat ≤ 1024; omega, b1⟩, ?_⟩
    rw [eF_cons, List.append_assoc, ← b2]
    show xs = enc ((gNum (xs, 0)).1.toNat : Int) ++ _
    rw [Int.toNat_of_nonneg a1.1]
    exact a2
  err := fun xs er h => by
    try simp only
    rw [gCnt_err h]
    rfl
  short := fun l ys zs h e hz => by
    rw [oks_cons] at h
    rw [eF_cons] at e
    have e' : enc l.length ++ eF (l.flatMap A.fs) = ys ++ zs := e
    have hl : l.length ≤ 1024 := h.1
    have ok : okN (l.length : Int) := okN_nat (by omega)
    try simp only
    by_cases q : ys.length < (enc l.length).length
    · have h1 := congrArg (List.take ys.length) e'
      rw [List.take_left, List.take_append_of_le_length (by omega)] at h1
      have h2 : enc l.length = ys ++ (enc l.length).drop ys.length := by
        conv => lhs; rw [← List.take_append_drop ys.length (enc l.length), h1]
      have hz2 : (enc l.length).drop ys.length ≠ [] := by
        intro c
        have := congrArg List.length c
        simp at this
        omega
      have e2 : gNum (ys, 0) = (0, (ys, 10)) := by
        unfold gNum
        rw [if_neg (by simp)]
        try simp only
        rw [num_cut ok h2 hz2]
        rfl
      have e3 : gCnt (ys, 0) = (0, (ys, 10)) := by
        unfold gCnt
        rw [e2]
        simp
      rw [e3]
      rfl
    · have h1 := congrArg (List.take (enc l.length).length) e'
      rw [List.take_left, List.take_append_of_le_length (by omega)] at h1
      have h2 : ys = enc l.length ++ ys.drop (enc l.length).length := by
        conv => lhs; rw [← List.take_append_drop (enc l.length).length ys, ← h1]
      rw [h2, List.append_assoc] at e'
      have e3 := List.append_cancel_left e'
      rw [h2, gCnt_back _ _ hl]
      try simp only
      exact gList_short A l _ zs h.2 e3 hz
theorem Cod.inj {α : Type} (A : Cod α) {x y : α} (hx : Oks (A.fs x)) (hy : Oks (A.fs y)) (h : eF (A.fs x) = eF (A.fs y)) : x = y := by
  have h1 := A.back x [] hx
  have h2 := A.back y [] hy
  rw [h, h2] at h1
  exact (congrArg Prod.fst h1).symm
end Go.Proofs.Ytllcmapgigfgoaa
