/-
  Rising lists of numbers: what goes in, what goes out, who lacks what. Of no program.
-/
namespace Go.Proofs.Ytacjmcjmenbekaa
set_option linter.unusedSimpArgs false
set_option linter.unusedVariables false

/-- Does the list rise? -/
def Rises (l : List Int) : Prop := l.Pairwise (· < ·)
theorem Rises.tail {x : Int} {l : List Int} (h : Rises (x :: l)) : Rises l := (List.pairwise_cons.1 h).2
theorem Rises.head {x : Int} {l : List Int} (h : Rises (x :: l)) : ∀ y ∈ l, x < y := (List.pairwise_cons.1 h).1
/-- Two that rise and have the same ones are the same. -/
theorem rises_ext : ∀ {l m : List Int}, Rises l → Rises m → (∀ x, x ∈ l ↔ x ∈ m) → l = m
  | [], [], _, _, _ => rfl
  | [], y :: m, _, _, h => by have := (h y).2 (by simp); simp at this
  | x :: l, [], _, _, h => by have := (h x).1 (by simp); simp at this
  | x :: l, y :: m, hl, hm, h => by
    have e : x = y := by
      have h1 := (h x).1 (by simp)
      have h2 := (h y).2 (by simp)
      simp only [List.mem_cons] at h1 h2
      rcases h1 with h1 | h1
      · exact h1
      · rcases h2 with h2 | h2
        · exact h2.symm
        · have := hl.head y h2; have := hm.head x h1; omega
    subst e
    congr 1
    refine rises_ext hl.tail hm.tail fun z => ?_
    have hz := h z
    simp only [List.mem_cons] at hz
    constructor
    · intro q
      rcases hz.1 (.inr q) with e | e
      · subst e; have := hl.head z q; omega
      · exact e
    · intro q
      rcases hz.2 (.inr q) with e | e
      · subst e; have := hm.head z q; omega
      · exact e
/-- Where one goes in: behind all lesser ones. -/
def spot (x : Int) (l : List Int) : Nat := (l.filter fun y => decide (y < x)).length
theorem spot_le (x : Int) (l : List Int) : spot x l ≤ l.length := List.length_filter_le _ _
/-- With one more. -/
def ins (x : Int) (l : List Int) : List Int := l.take (spot x l) ++ [x] ++ l.drop (spot x l)
theorem spot_cons_lt {x y : Int} {l : List Int} (h : y < x) : spot x (y :: l) = spot x l + 1 := by simp [spot, h]
theorem spot_zero {x : Int} {l : List Int} (h : ∀ y ∈ l, x < y) : spot x l = 0 := by
  unfold spot
  rw [List.length_eq_zero_iff, List.filter_eq_nil_iff]
  intro y hy
  have := h y hy
  simp; omega
theorem ins_cons_lt {x y : Int} {l : List Int} (h : y < x) : ins x (y :: l) = y :: ins x l := by simp [ins, spot_cons_lt h]
theorem ins_head {x : Int} {l : List Int} (h : ∀ y ∈ l, x < y) : ins x l = x :: l := by simp [ins, spot_zero h]
theorem mem_ins (x z : Int) (l : List Int) : z ∈ ins x l ↔ z = x ∨ z ∈ l := by
  have e : z ∈ l ↔ z ∈ l.take (spot x l) ∨ z ∈ l.drop (spot x l) := by rw [← List.mem_append, List.take_append_drop]
  rw [e]; simp [ins]; constructor
  · rintro (h | h | h) <;> simp_all
  · rintro (h | h | h) <;> simp_all
theorem ins_length (x : Int) (l : List Int) : (ins x l).length = l.length + 1 := by
  have := spot_le x l
  simp [ins]; omega
theorem ins_rises (x : Int) : ∀ {l : List Int}, Rises l → x ∉ l → Rises (ins x l)
  | [], _, _ => by simp [ins, spot, Rises]
  | y :: l, hl, hx => by
    simp only [List.mem_cons, not_or] at hx
    by_cases h : y < x
    · rw [ins_cons_lt h]
      refine List.pairwise_cons.2 ⟨fun z hz => ?_, ins_rises x hl.tail hx.2⟩
      rcases (mem_ins x z l).1 hz with e | e
      · omega
      · exact hl.head z e
    · have hlt : ∀ z ∈ y :: l, x < z := by
        intro z hz
        simp only [List.mem_cons] at hz
        rcases hz with e | e
        · subst e; omega
        · have := hl.head z e; omega
      rw [ins_head hlt]
      exact List.pairwise_cons.2 ⟨hlt, hl⟩
theorem spot_zero' {x : Int} {l : List Int} (h : ∀ y ∈ l, ¬ y < x) : spot x l = 0 := by
  unfold spot
  rw [List.length_eq_zero_iff, List.filter_eq_nil_iff]
  intro y hy
  have := h y hy
  simp; omega
/-- The place that a search finds in a list that rises. -/
theorem spot_of {x : Int} {l : List Int} (hl : Rises l) {k : Nat} (hk : k ≤ l.length) (h1 : ∀ i, i < k → l.getD i 0 < x) (h2 : ∀ i, k ≤ i → i < l.length → ¬ l.getD i 0 < x) : spot x l = k := by
  induction l generalizing k with
  | nil => simp at hk; subst hk; rfl
  | cons y l ih =>
    cases k with
    | zero =>
      refine spot_zero' fun z hz => ?_
      obtain ⟨i, hi, rfl⟩ := List.mem_iff_getElem.1 hz
      have := h2 i (by omega) hi
      have e : (y :: l).getD i 0 = (y :: l)[i] := by simp [List.getD, List.getElem?_eq_getElem hi]
      rw [e] at this
      exact this
    | succ k =>
      have h0 := h1 0 (by omega)
      simp at h0
      rw [spot_cons_lt h0, ih hl.tail (k := k) (by simpa using hk) (fun i hi => by have := h1 (i + 1) (by omega); simpa using this) (fun i hi hi2 => by have := h2 (i + 1) (by omega) (by simpa using hi2); simpa using this)]

/-- Without one. -/
def del (x : Int) (l : List Int) : List Int := l.filter fun y => !(y == x)
theorem mem_del (x z : Int) (l : List Int) : z ∈ del x l ↔ z ∈ l ∧ z ≠ x := by simp [del]
theorem del_rises (x : Int) {l : List Int} (h : Rises l) : Rises (del x l) := List.Pairwise.filter _ h
theorem del_length (x : Int) : ∀ {l : List Int}, Rises l → x ∈ l → (del x l).length + 1 = l.length
  | [], _, h => by simp at h
  | y :: l, hl, h => by
    by_cases e : y = x
    · subst e
      have : del y (y :: l) = l := by
        simp only [del, List.filter_cons, beq_self_eq_true, Bool.not_true, Bool.false_eq_true, if_false]
        rw [List.filter_eq_self]
        intro z hz
        have := hl.head z hz
        simp; omega
      rw [this]; rfl
    · have hx : x ∈ l := by
        simp only [List.mem_cons] at h
        rcases h with h | h
        · exact absurd h.symm e
        · exact h
      have := del_length x hl.tail hx
      have e2 : del x (y :: l) = y :: del x l := by simp [del, e]
      rw [e2]; simp; omega
theorem del_ins {x : Int} {l : List Int} (hl : Rises l) (hx : x ∉ l) : del x (ins x l) = l :=
  rises_ext (del_rises x (ins_rises x hl hx)) hl fun z => by
    rw [mem_del, mem_ins]
    constructor
    · rintro ⟨h | h, h2⟩
      · exact absurd h h2
      · exact h
    · intro h; exact ⟨.inr h, fun e => hx (e ▸ h)⟩
theorem ins_comm {x y : Int} {l : List Int} (hl : Rises l) (hx : x ∉ l) (hy : y ∉ l) (hxy : x ≠ y) : ins x (ins y l) = ins y (ins x l) := by
  refine rises_ext (ins_rises x (ins_rises y hl hy) ?_) (ins_rises y (ins_rises x hl hx) ?_) fun z => ?_
  · rw [mem_ins]; rintro (h | h) <;> simp_all
  · rw [mem_ins]; rintro (h | h) <;> simp_all
  · rw [mem_ins, mem_ins, mem_ins, mem_ins]
    constructor <;> (rintro (h | h | h) <;> simp_all)

/-- May a number be a node's? -/
def isN (n : Int) : Bool := decide (0 ≤ n) && decide (n ≤ 31)
/-- The nodes' part of what may be. -/
def Nodes (l : List Int) : Prop := Rises l ∧ (∀ x ∈ l, 0 ≤ x ∧ x ≤ 31) ∧ 1 ≤ l.length ∧ l.length ≤ 7
/-- May a configuration be? -/
def Val (ep : Int) (l : List Int) : Prop := 0 ≤ ep ∧ ep ≤ 1048576 ∧ Nodes l
instance (l : List Int) : Decidable (Rises l) := inferInstanceAs (Decidable (List.Pairwise _ _))
instance (l : List Int) : Decidable (Nodes l) := inferInstanceAs (Decidable (_ ∧ _))
instance (ep : Int) (l : List Int) : Decidable (Val ep l) := inferInstanceAs (Decidable (_ ∧ _))
def valB (ep : Int) (l : List Int) : Bool := decide (Val ep l)
/-- What a change comes to: what is wrong, the epoch, the nodes. -/
structure Chg where
  err : Int
  ep : Int
  ns : List Int
def no (e : Int) : Chg := ⟨e, 0, []⟩
def chgAdd (ep : Int) (l : List Int) (a : Int) : Chg := if isN a = false then no 1 else if a ∈ l then no 3 else if l.length = 7 then no 7 else ⟨0, ep + 1, ins a l⟩
def chgRem (ep : Int) (l : List Int) (a : Int) : Chg := if a ∉ l then no 2 else if l.length = 1 then no 4 else ⟨0, ep + 1, del a l⟩
def chgRep (ep : Int) (l : List Int) (a b : Int) : Chg := if a ∉ l then no 2 else if isN b = false then no 1 else if b ∈ l then no 3 else ⟨0, ep + 1, ins b (del a l)⟩
def chg (ep : Int) (l : List Int) (op a b : Int) : Chg :=
  if ¬ Val ep l ∨ ep = 1048576 then no 1
  else if op = 7 then chgAdd ep l a
  else if op = 8 then chgRem ep l a
  else if op = 9 then chgRep ep l a b
  else no 1
/-- Who of the first is not in the second. -/
def lacks (a b : List Int) : List Int := a.filter fun n => !decide (n ∈ b)
def folB (e1 : Int) (a : List Int) (e2 : Int) (b : List Int) : Bool :=
  valB e1 a && valB e2 b && (e2 == e1 + 1) && decide ((lacks a b).length ≤ 1) && decide ((lacks b a).length ≤ 1) && decide (0 < (lacks a b).length + (lacks b a).length)

theorem isN_iff (n : Int) : isN n = true ↔ 0 ≤ n ∧ n ≤ 31 := by simp [isN]
/-- What goes through is what may be. -/
theorem chg_val {ep : Int} {l : List Int} {op a b : Int} (h : (chg ep l op a b).err = 0) : Val ep l ∧ ep < 1048576 ∧ Val (chg ep l op a b).ep (chg ep l op a b).ns ∧ (chg ep l op a b).ep = ep + 1 := by
  unfold chg at h ⊢
  by_cases h0 : ¬ Val ep l ∨ ep = 1048576
  · simp [h0, no] at h
  rw [if_neg h0] at h ⊢
  simp only [not_or, Classical.not_not] at h0
  obtain ⟨hv, he⟩ := h0
  have hv' := hv
  obtain ⟨v1, v2, hr, hb, hl1, hl7⟩ := hv
  refine ⟨hv', by omega, ?_⟩
  split at h
  · rename_i ho
    rw [if_pos ho]
    unfold chgAdd at h ⊢
    split at h
    · simp [no] at h
    rename_i hn
    split at h
    · simp [no] at h
    rename_i hm
    split at h
    · simp [no] at h
    rename_i hf
    rw [if_neg hn, if_neg hm, if_neg hf]
    have hn' := (isN_iff a).1 (by simpa using hn)
    refine ⟨⟨by simp; omega, by simp; omega, ins_rises a hr hm, fun x hx => ?_, by rw [ins_length]; omega, by rw [ins_length]; omega⟩, rfl⟩
    rcases (mem_ins a x l).1 hx with e | e
    · subst e; exact hn'
    · exact hb x e
  rename_i ho
  rw [if_neg ho]
  split at h
  · rename_i ho2
    rw [if_pos ho2]
    unfold chgRem at h ⊢
    split at h
    · simp [no] at h
    rename_i hm
    split at h
    · simp [no] at h
    rename_i hf
    rw [if_neg hm, if_neg hf]
    have hm' : a ∈ l := by simpa using hm
    have := del_length a hr hm'
    refine ⟨⟨by simp; omega, by simp; omega, del_rises a hr, fun x hx => hb x ((mem_del a x l).1 hx).1, by simp only; omega, by simp only; omega⟩, rfl⟩
  rename_i ho2
  rw [if_neg ho2]
  split at h
  · rename_i ho3
    rw [if_pos ho3]
    unfold chgRep at h ⊢
    split at h
    · simp [no] at h
    rename_i hm
    split at h
    · simp [no] at h
    rename_i hn
    split at h
    · simp [no] at h
    rename_i hf
    rw [if_neg hm, if_neg hn, if_neg hf]
    have hm' : a ∈ l := by simpa using hm
    have hn' := (isN_iff b).1 (by simpa using hn)
    have := del_length a hr hm'
    have hbd : b ∉ del a l := fun q => hf ((mem_del a b l).1 q).1
    refine ⟨⟨by simp; omega, by simp; omega, ins_rises b (del_rises a hr) hbd, fun x hx => ?_, by rw [ins_length]; omega, by rw [ins_length]; omega⟩, rfl⟩
    rcases (mem_ins b x _).1 hx with e | e
    · subst e; exact hn'
    · exact hb x ((mem_del a x l).1 e).1
  · simp [no] at h
/-- What does not go through leaves nothing. -/
theorem chg_no {ep : Int} {l : List Int} {op a b : Int} (h : (chg ep l op a b).err ≠ 0) : (chg ep l op a b).ep = 0 ∧ (chg ep l op a b).ns = [] := by
  unfold chg chgAdd chgRem chgRep at h ⊢
  repeat' split at h
  all_goals simp_all [no]
/-- What a change that goes through does. -/
inductive Does (l : List Int) (op a b : Int) : List Int → Prop
  | add : op = 7 → 0 ≤ a → a ≤ 31 → a ∉ l → l.length < 7 → Does l op a b (ins a l)
  | rem : op = 8 → a ∈ l → 1 < l.length → Does l op a b (del a l)
  | rep : op = 9 → a ∈ l → 0 ≤ b → b ≤ 31 → b ∉ l → Does l op a b (ins b (del a l))
theorem chg_does {ep : Int} {l : List Int} {op a b : Int} (h : (chg ep l op a b).err = 0) : Does l op a b (chg ep l op a b).ns := by
  have hv := chg_val h
  unfold chg at h ⊢
  by_cases h0 : ¬ Val ep l ∨ ep = 1048576
  · simp [h0, no] at h
  rw [if_neg h0] at h ⊢
  obtain ⟨⟨_, _, hr, hb, hl1, hl7⟩, _⟩ := hv
  split at h
  · rename_i ho
    rw [if_pos ho]
    unfold chgAdd at h ⊢
    split at h
    · simp [no] at h
    rename_i hn
    split at h
    · simp [no] at h
    rename_i hm
    split at h
    · simp [no] at h
    rename_i hf
    rw [if_neg hn, if_neg hm, if_neg hf]
    have hn' := (isN_iff a).1 (by simpa using hn)
    exact .add ho hn'.1 hn'.2 hm (by omega)
  rename_i ho
  rw [if_neg ho]
  split at h
  · rename_i ho2
    rw [if_pos ho2]
    unfold chgRem at h ⊢
    split at h
    · simp [no] at h
    rename_i hm
    split at h
    · simp [no] at h
    rename_i hf
    rw [if_neg hm, if_neg hf]
    exact .rem ho2 (by simpa using hm) (by omega)
  rename_i ho2
  rw [if_neg ho2]
  split at h
  · rename_i ho3
    rw [if_pos ho3]
    unfold chgRep at h ⊢
    split at h
    · simp [no] at h
    rename_i hm
    split at h
    · simp [no] at h
    rename_i hn
    split at h
    · simp [no] at h
    rename_i hf
    rw [if_neg hm, if_neg hn, if_neg hf]
    have hn' := (isN_iff b).1 (by simpa using hn)
    exact .rep ho3 (by simpa using hm) hn'.1 hn'.2 hf
  · simp [no] at h
theorem lacks_nil_of {a b : List Int} (h : ∀ x ∈ a, x ∈ b) : lacks a b = [] := by
  unfold lacks
  rw [List.filter_eq_nil_iff]
  intro x hx
  simp [h x hx]
theorem lacks_one_of {a b : List Int} {z : Int} (ha : Rises a) (hz : z ∈ a) (hb : z ∉ b) (h : ∀ x ∈ a, x ≠ z → x ∈ b) : lacks a b = [z] := by
  refine rises_ext (List.Pairwise.filter _ ha) (by simp [Rises]) fun x => ?_
  simp only [lacks, List.mem_filter, Bool.not_eq_true', decide_eq_false_iff_not, List.mem_singleton]
  constructor
  · rintro ⟨h1, h2⟩
    by_cases e : x = z
    · exact e
    · exact absurd (h x h1 e) h2
  · rintro rfl; exact ⟨hz, hb⟩
/-- .. and so one follows, by a single member. -/
theorem does_lacks {l : List Int} {op a b : Int} {m : List Int} (hr : Rises l) (h : Does l op a b m) : (lacks l m).length ≤ 1 ∧ (lacks m l).length ≤ 1 ∧ 0 < (lacks l m).length + (lacks m l).length ∧ m.length + (lacks l m).length = l.length + (lacks m l).length := by
  cases h with
  | add ho h0 h1 hm hl =>
    have e1 : lacks l (ins a l) = [] := lacks_nil_of fun x hx => (mem_ins a x l).2 (.inr hx)
    have e2 : lacks (ins a l) l = [a] := lacks_one_of (ins_rises a hr hm) ((mem_ins a a l).2 (.inl rfl)) hm fun x hx hn => by
      rcases (mem_ins a x l).1 hx with e | e
      · exact absurd e hn
      · exact e
    rw [e1, e2, ins_length]; simp
  | rem ho hm hl =>
    have e1 : lacks (del a l) l = [] := lacks_nil_of fun x hx => ((mem_del a x l).1 hx).1
    have e2 : lacks l (del a l) = [a] := lacks_one_of hr hm (by rw [mem_del]; simp) fun x hx hn => (mem_del a x l).2 ⟨hx, hn⟩
    have := del_length a hr hm
    rw [e1, e2]; simp; omega
  | rep ho hm h0 h1 hb =>
    have hab : a ≠ b := fun e => hb (e ▸ hm)
    have hbd : b ∉ del a l := fun q => hb ((mem_del a b l).1 q).1
    have e1 : lacks l (ins b (del a l)) = [a] := lacks_one_of hr hm (by rw [mem_ins, mem_del]; simp [hab]) fun x hx hn => (mem_ins b x _).2 (.inr ((mem_del a x l).2 ⟨hx, hn⟩))
    have e2 : lacks (ins b (del a l)) l = [b] := lacks_one_of (ins_rises b (del_rises a hr) hbd) ((mem_ins b b _).2 (.inl rfl)) hb fun x hx hn => by
      rcases (mem_ins b x _).1 hx with e | e
      · exact absurd e hn
      · exact ((mem_del a x l).1 e).1
    have := del_length a hr hm
    rw [e1, e2, ins_length]; simp; omega
theorem chg_fol {ep : Int} {l : List Int} {op a b : Int} (h : (chg ep l op a b).err = 0) : folB ep l (chg ep l op a b).ep (chg ep l op a b).ns = true := by
  obtain ⟨h1, h2, h3, h4⟩ := chg_val h
  obtain ⟨d1, d2, d3, _⟩ := does_lacks h1.2.2.1 (chg_does h)
  simp only [folB, valB, Bool.and_eq_true, decide_eq_true_eq, beq_iff_eq]
  exact ⟨⟨⟨⟨⟨h1, h3⟩, h4⟩, d1⟩, d2⟩, d3⟩
theorem does_ne {l : List Int} {op a b : Int} {m : List Int} (hr : Rises l) (h : Does l op a b m) : l ≠ m := by
  intro e
  have := (does_lacks hr h).2.2.1
  subst e
  have e1 : lacks l l = [] := lacks_nil_of fun x hx => hx
  rw [e1] at this
  simp at this
/-- A list rises where each rises above the one ahead. -/
theorem rises_of : ∀ {l : List Int}, (∀ i, i + 1 < l.length → l.getD i 0 < l.getD (i + 1) 0) → Rises l
  | [], _ => List.Pairwise.nil
  | [x], _ => by simp [Rises]
  | x :: y :: l, h => by
    have h0 := h 0 (by simp)
    simp at h0
    have ht : Rises (y :: l) := rises_of fun i hi => by have := h (i + 1) (by simpa using hi); simpa using this
    refine List.pairwise_cons.2 ⟨fun z hz => ?_, ht⟩
    simp only [List.mem_cons] at hz
    rcases hz with e | e
    · subst e; exact h0
    · have := ht.head z e; omega
theorem rises_lt {l : List Int} (h : Rises l) {i j : Nat} (hij : i < j) (hj : j < l.length) : l.getD i 0 < l.getD j 0 := by
  have := List.pairwise_iff_getElem.1 h i j (by omega) hj hij
  simpa [List.getD, List.getElem?_eq_getElem (show i < l.length by omega), List.getElem?_eq_getElem hj] using this
/-- What was looked at so far. -/
def okTo (l : List Int) (k : Nat) : Prop := (∀ i, i < k → isN (l.getD i 0) = true) ∧ ∀ i, i + 1 < k → l.getD i 0 < l.getD (i + 1) 0
theorem okTo_zero (l : List Int) : okTo l 0 := ⟨fun i h => by omega, fun i h => by omega⟩
theorem okTo_succ {l : List Int} {k : Nat} (h : okTo l k) (h1 : isN (l.getD k 0) = true) (h2 : 0 < k → l.getD (k - 1) 0 < l.getD k 0) : okTo l (k + 1) :=
  ⟨fun i hi => by
    by_cases e : i = k
    · subst e; exact h1
    · exact h.1 i (by omega), fun i hi => by
    by_cases e : i + 1 = k
    · subst e; exact h2 (by omega)
    · exact h.2 i (by omega)⟩
theorem okTo_all {l : List Int} (h : okTo l l.length) : Rises l ∧ ∀ x ∈ l, 0 ≤ x ∧ x ≤ 31 :=
  ⟨rises_of h.2, fun x hx => by
    obtain ⟨i, hi, rfl⟩ := List.mem_iff_getElem.1 hx
    have := h.1 i hi
    rw [isN_iff] at this
    simpa [List.getD, List.getElem?_eq_getElem hi] using this⟩
theorem valB_ok {ep : Int} {l : List Int} (h0 : 0 ≤ ep) (h1 : ep ≤ 1048576) (h2 : 1 ≤ l.length) (h3 : l.length ≤ 7) (h : okTo l l.length) : valB ep l = true := by
  simp only [valB, decide_eq_true_eq]
  obtain ⟨a, b⟩ := okTo_all h
  exact ⟨h0, h1, a, b, h2, h3⟩
theorem valB_no1 {ep : Int} {l : List Int} {k : Nat} (hk : k < l.length) (h : isN (l.getD k 0) = false) : valB ep l = false := by
  simp only [valB, decide_eq_false_iff_not]
  rintro ⟨_, _, _, b, _⟩
  have := b (l.getD k 0) (by simp [List.getD, List.getElem?_eq_getElem hk])
  rw [← isN_iff, h] at this
  cases this
theorem valB_no2 {ep : Int} {l : List Int} {k : Nat} (hk : k < l.length) (h0 : 0 < k) (h : ¬ l.getD (k - 1) 0 < l.getD k 0) : valB ep l = false := by
  simp only [valB, decide_eq_false_iff_not]
  rintro ⟨_, _, a, _⟩
  exact h (rises_lt a (by omega) hk)
theorem valB_no0 {ep : Int} {l : List Int} (h : ep < 0 ∨ 1048576 < ep ∨ l.length < 1 ∨ 7 < l.length) : valB ep l = false := by
  simp only [valB, decide_eq_false_iff_not]
  rintro ⟨h0, h1, _, _, h2, h3⟩
  omega
end Go.Proofs.Ytacjmcjmenbekaa
