/-
  Texts put together: Rdf, Rdv.
-/
import Derived.Test.YtnancdbkmompdaaGreatRY
import Derived.Test.YtnancdbkmompdaaGreatRQR
import Derived.Deep.QuietTactic
import Derived.BigQuiet
namespace Go.Proofs.YtnancdbkmompdaaGreat
open Go.RowKit Go.Sort
set_option linter.unusedSimpArgs false
set_option linter.unusedVariables false
set_option maxRecDepth 100000
set_option maxHeartbeats 40000000
section
variable {β : Type} (key : β → I3) (new : β)
def insS (s : List β × Bool) (e : β) : List β × Bool :=
 let d := (!s.2) && ltI (key new) (key e)
 let o := if d then s.1 ++ [new] else s.1
 (if key e ≠ key new then o ++ [e] else o, s.2 || ltI (key new) (key e))
def finS (s : List β × Bool) : List β := if s.2 then s.1 else s.1 ++ [new]
def insR (R : List β) : List β := finS new (R.foldl (insS key new) ([], false))
def insP : List β → List β
 | [] => [new]
 | e :: r => if ltI (key new) (key e) then new :: e :: r else if key e = key new then new :: r else e :: insP r
theorem insS_done : ∀ (r : List β) (o : List β), (∀ e ∈ r, key e ≠ key new) → r.foldl (insS key new) (o, true) = (o ++ r, true)
 | [], o, _ => by simp
 | e :: r, o, h => by
  have h1 : insS key new (o, true) e = (o ++ [e], true) := by
   unfold insS
   simp [h e (List.mem_cons_self)]
  rw [List.foldl_cons, h1, insS_done r (o ++ [e]) (fun x hx => h x (List.mem_cons_of_mem _ hx))]
  simp
theorem ltI_ne {a b : I3} (h : ltI a b = true) : b ≠ a := by rintro rfl; rw [ltI_irrefl] at h; cases h
theorem insP_head {r : List β} (h : ∀ e ∈ r, ltI (key new) (key e) = true) : insP key new r = new :: r := by
 cases r with
 | nil => rfl
 | cons e r => unfold insP; rw [if_pos (h e List.mem_cons_self)]
theorem insS_fold : ∀ (R : List β) (o : List β), Rises (R.map key) → finS new (R.foldl (insS key new) (o, false)) = o ++ insP key new R
 | [], o, _ => by simp [finS, insP]
 | e :: r, o, h => by
  have hr : Rises (r.map key) := (List.pairwise_cons.1 h).2
  have he : ∀ x ∈ r, ltI (key e) (key x) = true := fun x hx => (List.pairwise_cons.1 h).1 _ (List.mem_map.2 ⟨x, hx, rfl⟩)
  rw [List.foldl_cons]
  unfold insP
  by_cases q : ltI (key new) (key e) = true
  ·have h1 : insS key new (o, false) e = (o ++ [new] ++ [e], true) := by
    unfold insS
    simp [q, ltI_ne q]
   rw [h1, insS_done key new r _ (fun x hx => ltI_ne (ltI_trans q (he x hx))), if_pos q]
   simp [finS]
  ·rw [if_neg q]
   by_cases q2 : key e = key new
   ·have h1 : insS key new (o, false) e = (o, false) := by
     unfold insS
     simp [q, q2]
     rw [ltI_irrefl]
    rw [h1, insS_fold r o hr, if_pos q2, insP_head key new (fun x hx => q2 ▸ he x hx)]
   ·have h1 : insS key new (o, false) e = (o ++ [e], false) := by
     unfold insS
     simp [q, q2]
    rw [h1, insS_fold r _ hr, if_neg q2]
    simp
theorem insR_eq {R : List β} (h : Rises (R.map key)) : insR key new R = insP key new R := by
 unfold insR
 rw [insS_fold key new R [] h, List.nil_append]
theorem mem_insP (R : List β) (y : I3) : y ∈ (insP key new R).map key ↔ y = key new ∨ y ∈ R.map key := by
 induction R with
 | nil => simp [insP]
 | cons e r ih =>
  unfold insP
  by_cases q : ltI (key new) (key e) = true
  ·rw [if_pos q]; simp
  ·rw [if_neg q]
   by_cases q2 : key e = key new
   ·rw [if_pos q2]; simp [q2]
   ·rw [if_neg q2, List.map_cons, List.mem_cons, ih, List.map_cons, List.mem_cons]
    constructor
    ·rintro (h | h | h)
     ·exact .inr (.inl h)
     ·exact .inl h
     ·exact .inr (.inr h)
    ·rintro (h | h | h)
     ·exact .inr (.inl h)
     ·exact .inl h
     ·exact .inr (.inr h)
theorem rises_insP : ∀ {R : List β}, Rises (R.map key) → Rises ((insP key new R).map key)
 | [], _ => by simp [insP, Rises]
 | e :: r, h => by
  have hr : Rises (r.map key) := (List.pairwise_cons.1 h).2
  have he : ∀ x ∈ r.map key, ltI (key e) x = true := (List.pairwise_cons.1 h).1
  unfold insP
  by_cases q : ltI (key new) (key e) = true
  ·rw [if_pos q, List.map_cons]
   refine List.pairwise_cons.2 ⟨fun x hx => ?_, h⟩
   rcases List.mem_cons.1 hx with rfl | hx
   ·exact q
   ·exact ltI_trans q (he x hx)
  ·rw [if_neg q]
   by_cases q2 : key e = key new
   ·rw [if_pos q2, List.map_cons, ← q2]
    exact List.pairwise_cons.2 ⟨he, hr⟩
   ·rw [if_neg q2, List.map_cons]
    refine List.pairwise_cons.2 ⟨fun x hx => ?_, rises_insP hr⟩
    rcases (mem_insP key new r x).1 hx with rfl | hx
    ·cases z : ltI (key e) (key new) with
     | true => rfl
     | false => exact absurd (ltI_total z (by simpa using q)) q2
    ·exact he x hx
end
theorem insS_map {β γ : Type} (f : β → γ) (kb : β → I3) (kg : γ → I3) (hk : ∀ x, kg (f x) = kb x) (new : β) (s : List β × Bool) (e : β) : insS kg (f new) (s.1.map f, s.2) (f e) = ((insS kb new s e).1.map f, (insS kb new s e).2) := by
 unfold insS
 simp only [hk]
 generalize ltI (kb new) (kb e) = c
 obtain ⟨a, d⟩ := s
 cases d <;> cases c <;> by_cases q2 : kb e = kb new <;> simp [q2]
theorem insR_map {β γ : Type} (f : β → γ) (kb : β → I3) (kg : γ → I3) (hk : ∀ x, kg (f x) = kb x) (new : β) (R : List β) : (insR kb new R).map f = insR kg (f new) (R.map f) := by
 have key : ∀ (l : List β) (s : List β × Bool), (l.map f).foldl (insS kg (f new)) (s.1.map f, s.2) = ((l.foldl (insS kb new) s).1.map f, (l.foldl (insS kb new) s).2) := by
  intro l
  induction l with
  | nil => intro s; rfl
  | cons e r ih => intro s; rw [List.map_cons, List.foldl_cons, List.foldl_cons, insS_map f kb kg hk, ih]
 unfold insR finS
 have h := key R ([], false)
 rw [show (([] : List γ), false) = (([] : List β).map f, false) from rfl, h]
 by_cases q : (R.foldl (insS kb new) ([], false)).2 = true
 ·simp [q]
 ·simp [q]
abbrev Pl : Type := List (I3 × Ins)
abbrev k1 (e : I3 × Ins) : I3 := e.1
theorem getV_cons (e : I3 × Ins) (r : Pl) (x : I3) : getV (e :: r) x = if e.1 = x then some e.2 else getV r x := by
 unfold getV
 rw [List.find?_cons]
 by_cases q : e.1 = x
 ·simp [q]
 ·simp [q]
theorem getV_insP (new : I3 × Ins) (R : Pl) (x : I3) : getV (insP k1 new R) x = if new.1 = x then some new.2 else getV R x := by
 induction R with
 | nil => unfold insP; rw [getV_cons]
 | cons e r ih =>
  unfold insP
  by_cases q : ltI (k1 new) (k1 e) = true
  ·rw [if_pos q, getV_cons]
  ·rw [if_neg q]
   by_cases q2 : k1 e = k1 new
   ·rw [if_pos q2, getV_cons, getV_cons]
    have q2 : e.1 = new.1 := q2
    by_cases q3 : new.1 = x
    ·rw [if_pos q3, if_pos q3]
    ·rw [if_neg q3, if_neg q3, if_neg (by rw [q2]; exact q3)]
   ·rw [if_neg q2, getV_cons, ih, getV_cons]
    have q2 : e.1 ≠ new.1 := q2
    by_cases q3 : e.1 = x
    ·rw [if_pos q3, if_pos q3, if_neg (by rw [← q3]; exact Ne.symm q2)]
    ·rw [if_neg q3, if_neg q3]
/-- The program's state and the document's, one beside the other. -/
structure PR (y : Knw) (R : Pl) : Prop where
 keys : y.2.1 = R.map k1
 rise : Rises (R.map k1)
 at' : ∀ id, getV y.2.2 id = getV R id
 nd : (keysV y.2.2).Nodup
 num : ∀ id ∈ y.2.1, 0 ≤ id.2.2 ∧ id.2.2 ≤ 281474976710656
theorem PR.start (s : Snp) : PR (s, [], []) [] := ⟨rfl, List.Pairwise.nil, fun _ => rfl, List.nodup_nil, fun id h => by cases h⟩
theorem rises_nodup {l : List I3} (h : Rises l) : l.Nodup := h.imp fun {a b} q e => by subst e; rw [ltI_irrefl] at q; cases q
theorem PR.len {y : Knw} {R : Pl} (h : PR y R) : y.2.2.length = R.length := by
 have h1 : (keysV y.2.2).Perm (R.map k1) := by
  refine (List.perm_ext_iff_of_nodup h.nd (rises_nodup h.rise)).2 fun x => ?_
  have e := h.at' x
  have e2 : hasI (keysV y.2.2) x = hasI (keysV R) x := by rw [← getV_isSome, ← getV_isSome, e]
  rw [← hasI_iff, e2, hasI_iff]
 have := h1.length_eq
 simpa using this
/-- What a record makes of the document's state. -/
def addR (x : Snp) (R : Pl) (r : Rec4) : Snp × Pl :=
 if r.1 = true then (if Cv.valB r.2.2.2.1.1 r.2.2.2.1.2 = true ∧ x.1.1 < r.2.2.2.1.1 then (r.2.2.2, []) else (x, R))
 else if r.2.1.1 ≠ x.1.1 then (x, R) else (x, insR k1 (r.2.1, r.2.2.1) R)
theorem PR.add {y : Knw} {R : Pl} (h : PR y R) (r : Rec4) (hn : r.1 = false → 0 ≤ r.2.1.2.2 ∧ r.2.1.2.2 ≤ 281474976710656) : (addR y.1 R r).1 = (wth y.1 y.2.1 y.2.2 r).1 ∧ PR (wth y.1 y.2.1 y.2.2 r) (addR y.1 R r).2 := by
 obtain ⟨x, L, M⟩ := y
 unfold addR wth
 dsimp only
 by_cases q : r.1 = true
 ·rw [if_pos q]
  by_cases q2 : Cv.valB r.2.2.2.1.1 r.2.2.2.1.2 = true ∧ x.1.1 < r.2.2.2.1.1
  ·rw [if_pos q2, if_pos ⟨q, q2⟩]
   exact ⟨rfl, PR.start _⟩
  ·have e1 : ¬ (r.1 = true ∧ Cv.valB r.2.2.2.1.1 r.2.2.2.1.2 = true ∧ x.1.1 < r.2.2.2.1.1) := fun z => q2 z.2
   rw [if_neg q2, if_neg e1, if_pos (Or.inl q)]
   exact ⟨rfl, h⟩
 ·have e1 : ¬ (r.1 = true ∧ Cv.valB r.2.2.2.1.1 r.2.2.2.1.2 = true ∧ x.1.1 < r.2.2.2.1.1) := fun z => q z.1
  rw [if_neg q, if_neg e1]
  by_cases q2 : r.2.1.1 ≠ x.1.1
  ·rw [if_pos q2, if_pos (Or.inr q2)]
   exact ⟨rfl, h⟩
  ·have e2 : ¬ (r.1 = true ∨ r.2.1.1 ≠ x.1.1) := fun z => z.elim q q2
   rw [if_neg q2, if_neg e2]
   have hrise := rises_insP k1 (r.2.1, r.2.2.1) h.rise
   have hmem := mem_insP k1 (r.2.1, r.2.2.1) R
   have hk : L = R.map k1 := h.keys
   refine ⟨rfl, ?_, ?_, ?_, nodup_putV h.nd _ _, ?_⟩
   ·show (if hasI L r.2.1 = true then L else uniI L [r.2.1]) = (insR k1 (r.2.1, r.2.2.1) R).map k1
    rw [insR_eq k1 _ h.rise]
    by_cases q3 : hasI L r.2.1 = true
    ·rw [if_pos q3, hk]
     refine Rises.uniq h.rise hrise fun z => ?_
     rw [hmem]
     constructor
     ·exact fun hz => .inr hz
     ·rintro (rfl | hz)
      ·rw [hasI_iff, hk] at q3; exact q3
      ·exact hz
    ·rw [if_neg q3]
     unfold uniI
     refine clnI_eq hrise fun z => ?_
     rw [hmem, List.mem_append, hk]
     simp only [List.mem_singleton]
     exact Or.comm
   ·rw [insR_eq k1 _ h.rise]; exact hrise
   ·intro id
    show getV (putV M r.2.1 r.2.2.1) id = getV (insR k1 (r.2.1, r.2.2.1) R) id
    rw [insR_eq k1 _ h.rise, getV_insP, getV_put h.nd]
    have := h.at' id
    by_cases q3 : r.2.1 = id
    ·simp [q3]
    ·have q4 : ¬ id = r.2.1 := fun e => q3 e.symm
     simp only [q3, q4, if_false]
     exact this
   ·intro id hid
    have hid : id ∈ (if hasI L r.2.1 = true then L else uniI L [r.2.1]) := hid
    by_cases q3 : hasI L r.2.1 = true
    ·rw [if_pos q3] at hid
     exact h.num id hid
    ·rw [if_neg q3, mem_uniI] at hid
     rcases hid with hid | hid
     ·exact h.num id hid
     ·rw [List.mem_singleton.1 hid]
      exact hn (by simpa using q)
theorem id_num {x : I3} (h : Oks (idC.fs x)) : 0 ≤ x.2.2 ∧ x.2.2 ≤ 281474976710656 := by
 have h2 : Oks ([Fd.num x.1] ++ ([Fd.num x.2.1] ++ [Fd.num x.2.2])) := h
 rw [oks_app, oks_app] at h2
 exact h2.2.2 _ (List.mem_singleton.2 rfl)
/-- A node's next number, as the document reckons it. -/
def nxR (n : Int) (R : Pl) : Int := R.foldl (fun m e => if e.1.2.1 = n then max m (e.1.2.2 + 1) else m) 0
theorem nx_fold (n : Int) : ∀ (R : Pl) (m : Int), (∀ e ∈ R, 0 ≤ e.1.2.2) → 0 ≤ m → R.foldl (fun m e => if e.1.2.1 = n then max m (e.1.2.2 + 1) else m) m = ((R.map k1).filter fun x => !othN n x).foldl (fun g x => max g (x.2.2 + 1)) m
 | [], m, _, _ => rfl
 | e :: r, m, h, hm => by
  rw [List.foldl_cons, List.map_cons, List.filter_cons]
  have hr := fun x hx => h x (List.mem_cons_of_mem _ hx)
  have he := h e List.mem_cons_self
  by_cases q : e.1.2.1 = n
  ·have q2 : (!othN n (k1 e)) = true := by unfold othN k1; simp [q]
   rw [if_pos q, if_pos q2, List.foldl_cons, nx_fold n r _ hr (by omega)]
  ·have q2 : ¬ (!othN n (k1 e)) = true := by unfold othN k1; simp [q]
   rw [if_neg q, if_neg q2, nx_fold n r m hr hm]
theorem max_fold (F : List I3) : ∀ (m : Int), F.foldl (fun g x => max g (x.2.2 + 1)) (m + 1) = F.foldl (fun g x => max g x.2.2) m + 1 := by
 induction F with
 | nil => intro m; rfl
 | cons x r ih =>
  intro m
  rw [List.foldl_cons, List.foldl_cons, ← ih]
  congr 1
  omega
theorem max_fold_bnd (F : List I3) (B : Int) : ∀ (m : Int), m ≤ B → (∀ x ∈ F, x.2.2 ≤ B) → F.foldl (fun g x => max g x.2.2) m ≤ B ∧ m ≤ F.foldl (fun g x => max g x.2.2) m := by
 induction F with
 | nil => intro m h _; exact ⟨h, Int.le_refl _⟩
 | cons x r ih =>
  intro m h hx
  have := hx x List.mem_cons_self
  have := ih (max m x.2.2) (by omega) (fun z hz => hx z (List.mem_cons_of_mem _ hz))
  rw [List.foldl_cons]
  omega
theorem nx_same (n : Int) (L : List I3) (R : Pl) (hk : L = R.map k1) (hb : ∀ id ∈ L, 0 ≤ id.2.2 ∧ id.2.2 ≤ 281474976710656) : nxR n R = nxtN n L := by
 have hR : ∀ e ∈ R, 0 ≤ e.1.2.2 := fun e he => (hb e.1 (by rw [hk]; exact List.mem_map.2 ⟨e, he, rfl⟩)).1
 unfold nxR nxtN
 rw [nx_fold n R 0 hR (Int.le_refl _), ← hk]
 obtain ⟨F, hF⟩ : ∃ F, L.filter (fun x => !othN n x) = F := ⟨_, rfl⟩
 have hFb : ∀ x ∈ F, 0 ≤ x.2.2 ∧ x.2.2 ≤ 281474976710656 := fun x hx => hb x (by rw [← hF] at hx; exact (List.mem_filter.1 hx).1)
 rw [hF]
 cases F with
 | nil => simp
 | cons a r =>
  rw [if_neg (by simp)]
  have ha := hFb a List.mem_cons_self
  have h1 := max_fold r a.2.2
  have h2 := max_fold_bnd r 281474976710656 a.2.2 ha.2 (fun x hx => (hFb x (List.mem_cons_of_mem _ hx)).2)
  have h3 : grtN (a :: r) = r.foldl (fun g x => max g x.2.2) a.2.2 := by
   unfold grtN
   rw [List.foldl_cons]
   simp
  rw [h3, List.foldl_cons, show max 0 (a.2.2 + 1) = a.2.2 + 1 by omega, h1]
  unfold wrap64
  omega
end Go.Proofs.YtnancdbkmompdaaGreat
namespace Go.Proofs.YtnancdbkmompdaaGreat.Cv
open Go.RowKit
set_option linter.unusedSimpArgs false
set_option linter.unusedVariables false
set_option maxRecDepth 100000
set_option maxHeartbeats 40000000
theorem ret_bool {a b : Bool} (h : a = b) : Ending.returned (.bool a) = .returned (.bool b) := by rw [h]
def sameB (e1 : Int) (a : List Int) (e2 : Int) (b : List Int) : Bool := decide (e1 = e2) && decide (a = b)
theorem eq_of_all {xs ys : List Int} (h : xs.length = ys.length) (hk : ∀ j, j < xs.length → xs.getD j 0 = ys.getD j 0) : xs = ys := by
 refine List.ext_getElem h fun j h1 h2 => ?_
 have := hk j h1
 simpa [List.getD, h1, h2] using this
theorem rvalidV_any (ep : Int) (a : Option Addr) (cap : Nat) (ns : List Int) (w : World) (hr : IRow w a ns) : Calls Tryz.prog 52 #[.agg #[.int .i64 ep, .slice a ns.length cap]] w fun e w' => e = .returned (.bool (valB ep ns)) ∧ Below w.heap.size w w' := by
 obtain ⟨X, hX⟩ : ∃ X, w.alloc (.cells #[.int .i64 ep, .slice a ns.length cap] 24) = X := ⟨_, rfl⟩
 have HBX0 : Hid (Below w.heap.size w X) := Hd (by rw [← hX]; exact (Below.refl _ _).alloc (Nat.le_refl _) _)
 have HBa : Hid (Bk X w.heap.size 24 [.int .i64 ep, .slice a ns.length cap]) := Hd (by rw [← hX]; exact Bk.new w _ [.int .i64 ep, .slice a ns.length cap])
 have HS0 := Hd (Below.refl X.heap.size X)
 have HXX := Hd hX
 clear hX
 have hl := hr.1
 have HRW := Hd hr.2
 clear hr
 go_enter Tryz.func52, Tryz.ntmps52
 go_wp2_with fail
 rw [HXX.out]
 clear HXX
 go_loopw [3] (fun i wr => ∃ k : Nat, k ≤ ns.length ∧ i = .int .i64 k ∧ Hid (okTo ns k) ∧ Hid (Below X.heap.size X wr)) (fun i _ => ns.length - (intOf i).toNat)
 case atStart => exact ⟨0, Nat.zero_le _, rfl, Hd (okTo_zero ns), HS0⟩
 case round =>
  clear HS0
  obtain ⟨k, hk, rfl, hH, hS⟩ := hrel
  have b0 := (HBa.out.below hS.out).cell 0
  have b1 := (HBa.out.below hS.out).cell 1
  simp only [gB] at b0 b1
  by_cases hlt : k < ns.length
  ·rcases HRW.out with h0 | ⟨b, off, rfl, hb, hcc⟩
   ·rw [h0] at hlt; simp at hlt
   have hcell := (((HBX0.out.trans (hS.out.mono HBX0.out.size))).cell (p := ⟨b, off + k, none⟩) hb).trans (hcc k hlt)
   obtain ⟨z, hz⟩ : ∃ z, ns.getD k 0 = z := ⟨_, rfl⟩
   rw [hz] at hcell
   have HZ := Hd hz
   clear hz
   have i1 : (0 : Int) ≤ (k : Int) := by omega
   have i2 : (k : Int) < (ns.length : Int) := by omega
   by_cases q0 : z < 0
   ·have HE : Hid (valB ep ns = false) := Hd (valB_no1 hlt (by rw [HZ.out]; simp [isN]; omega))
    clear hcc
    go_wp2_with fail
    go_quiet (fail)
    go_wp2
    go_ret
    exact ⟨ret_bool HE.out.symm, below_drewN_q (HBX0.out.trans (hS.out.mono HBX0.out.size)) _⟩
   have d0 : decide (z < 0) = false := by simpa using q0
   by_cases q1 : 31 < z
   ·have HE : Hid (valB ep ns = false) := Hd (valB_no1 hlt (by rw [HZ.out]; simp [isN]; omega))
    clear hcc
    go_wp2_with fail
    go_quiet (fail)
    go_wp2
    go_ret
    exact ⟨ret_bool HE.out.symm, below_drewN_q (HBX0.out.trans (hS.out.mono HBX0.out.size)) _⟩
   have d1 : decide (31 < z) = false := by simpa using q1
   have hz3 : isN z = true := by rw [isN_iff]; omega
   have HZ3 := Hd hz3
   clear hz3
   by_cases q2 : 0 < k
   ·have hcell2 := (((HBX0.out.trans (hS.out.mono HBX0.out.size))).cell (p := ⟨b, off + (k - 1), none⟩) hb).trans (hcc (k - 1) (by omega))
    obtain ⟨y, hy⟩ : ∃ y, ns.getD (k - 1) 0 = y := ⟨_, rfl⟩
    rw [hy] at hcell2
    have HY := Hd hy
    clear hy hcc
    have t6 : (0 : Int) < k := by omega
    have t7 : (k : Int) - 1 < ns.length := by omega
    have t71 : (0 : Int) ≤ (k : Int) - 1 := by omega
    have t72 : IntKind.i64.wrap ((k : Int) - 1) = (k : Int) - 1 := IntWalk.i64_in _ (by omega)
    have t73 : ((k : Int) - 1).toNat = k - 1 := by omega
    by_cases q3 : z ≤ y
    ·have HE : Hid (valB ep ns = false) := Hd (valB_no2 hlt q2 (by rw [HZ.out, HY.out]; omega))
     go_wp2_with fail
     go_quiet (fail)
     go_wp2
     go_ret
     exact ⟨ret_bool HE.out.symm, below_drewN_q (HBX0.out.trans (hS.out.mono HBX0.out.size)) _⟩
    ·have HE : Hid (okTo ns (k + 1)) := Hd (okTo_succ hH.out (by rw [HZ.out]; exact HZ3.out) (fun _ => by rw [HZ.out, HY.out]; omega))
     go_wp2_with fail
     go_quiet (fail)
     clear t72 t73
     go_wp2
     go_roundw
     case rel => exact ⟨k + 1, by omega, by go_num, HE, Hd (below_drewN_q hS.out _)⟩
     case measure => simp [intOf]; omega
   ·have HE : Hid (okTo ns (k + 1)) := Hd (okTo_succ hH.out (by rw [HZ.out]; exact HZ3.out) (fun h => absurd h q2))
    have t6 : decide ((0 : Int) < k) = false := by simp; omega
    clear hcc
    go_wp2_with fail
    go_quiet (fail)
    go_wp2
    go_roundw
    case rel => exact ⟨k + 1, by omega, by go_num, HE, Hd (below_drewN_q hS.out _)⟩
    case measure => simp [intOf]; omega
  ·obtain rfl : k = ns.length := by omega
   by_cases t1 : 0 ≤ ep
   ·by_cases t2 : ep ≤ 1048576
    ·by_cases t3 : (1 : Int) ≤ ns.length
     ·by_cases t4 : (ns.length : Int) ≤ 7
      ·have HE : Hid (valB ep ns = true) := Hd (valB_ok t1 t2 (by omega) (by omega) hH.out)
       go_wp2
       go_ret
       exact ⟨ret_bool HE.out.symm, (HBX0.out.trans (hS.out.mono HBX0.out.size))⟩
      ·have HE : Hid (valB ep ns = false) := Hd (valB_no0 (.inr (.inr (.inr (by omega)))))
       have u : decide ((ns.length : Int) ≤ 7) = false := by simpa using t4
       go_wp2
       go_ret
       exact ⟨ret_bool HE.out.symm, (HBX0.out.trans (hS.out.mono HBX0.out.size))⟩
     ·have HE : Hid (valB ep ns = false) := Hd (valB_no0 (.inr (.inr (.inl (by omega)))))
      have u : decide ((1 : Int) ≤ (ns.length : Int)) = false := by simpa using t3
      go_wp2
      go_ret
      exact ⟨ret_bool HE.out.symm, (HBX0.out.trans (hS.out.mono HBX0.out.size))⟩
    ·have HE : Hid (valB ep ns = false) := Hd (valB_no0 (.inr (.inl (by omega))))
     have u : decide (ep ≤ 1048576) = false := by simpa using t2
     go_wp2
     go_ret
     exact ⟨ret_bool HE.out.symm, (HBX0.out.trans (hS.out.mono HBX0.out.size))⟩
   ·have HE : Hid (valB ep ns = false) := Hd (valB_no0 (.inl (by omega)))
    have u : decide (0 ≤ ep) = false := by simpa using t1
    go_wp2
    go_ret
    exact ⟨ret_bool HE.out.symm, (HBX0.out.trans (hS.out.mono HBX0.out.size))⟩
theorem rsameV_any (e1 e2 : Int) (a1 a2 : Option Addr) (c1 c2 : Nat) (xs ys : List Int) (w : World) (h1 : IRow w a1 xs) (h2 : IRow w a2 ys) :
  Calls Tryz.prog 31 #[.agg #[.int .i64 e1, .slice a1 xs.length c1], .agg #[.int .i64 e2, .slice a2 ys.length c2]] w fun e w' => e = .returned (.bool (sameB e1 xs e2 ys)) ∧ Below w.heap.size w w' := by
 obtain ⟨X, hX⟩ : ∃ X, (w.alloc (.cells #[.int .i64 e1, .slice a1 xs.length c1] 24)).alloc (.cells #[.int .i64 e2, .slice a2 ys.length c2] 24) = X := ⟨_, rfl⟩
 have HBX0 : Hid (Below w.heap.size w X) := Hd (by rw [← hX]; exact ((Below.refl _ _).alloc (Nat.le_refl _) _).alloc (by simp) _)
 have HBa : Hid (Bk X w.heap.size 24 [.int .i64 e1, .slice a1 xs.length c1]) := Hd (by rw [← hX]; exact (Bk.new w _ [.int .i64 e1, .slice a1 xs.length c1]).old _)
 have HBb : Hid (Bk X (w.heap.size + 1) 24 [.int .i64 e2, .slice a2 ys.length c2]) := Hd (by rw [← hX]; have := Bk.new (w.alloc (.cells #[.int .i64 e1, .slice a1 xs.length c1] 24)) 24 [.int .i64 e2, .slice a2 ys.length c2]; simpa using this)
 have HS0 := Hd (Below.refl X.heap.size X)
 have HXX := Hd hX
 have zz0 := HBa.out.cell 0
 have zz1 := HBa.out.cell 1
 have zz2 := HBb.out.cell 0
 have zz3 := HBb.out.cell 1
 simp only [gB] at zz0 zz1 zz2 zz3
 clear hX
 have l1 := h1.1
 have l2 := h2.1
 by_cases qe : e1 = e2
 ·have te : (e1 != e2) = false := by simpa using qe
  by_cases ql : xs.length = ys.length
  ·have tl : ((xs.length : Int) != ys.length) = false := by simp; omega
   have HE : Hid (sameB e1 xs e2 ys = decide (xs = ys)) := Hd (by simp [sameB, qe])
   have HL := Hd ql
   have H1 := Hd h1.2
   have H2 := Hd h2.2
   clear h1 h2 qe ql
   go_enter Tryz.func31, Tryz.ntmps31
   go_upto_region 1 with fail
   rw [HXX.out]
   clear HXX
   go_wp2_with fail
   clear zz0 zz1 zz2 zz3
   go_loopw [5] (fun i wr => ∃ k : Nat, k ≤ xs.length ∧ i = .int .i64 k ∧ Hid (∀ j, j < k → xs.getD j 0 = ys.getD j 0) ∧ Hid (Below X.heap.size X wr)) (fun i _ => xs.length - (intOf i).toNat)
   case atStart => exact ⟨0, Nat.zero_le _, rfl, Hd (fun j h => by omega), HS0⟩
   case round =>
    clear HS0
    obtain ⟨k, hk, rfl, hE, hS⟩ := hrel
    have b0 := (HBa.out.below hS.out).cell 0
    have b1 := (HBa.out.below hS.out).cell 1
    have b2q := (HBb.out.below hS.out).cell 0
    have b3q := (HBb.out.below hS.out).cell 1
    simp only [gB] at b0 b1 b2q b3q
    by_cases hlt : k < xs.length
    ·rcases H1.out with h0 | ⟨b, off, rfl, hb, hc1⟩
     ·rw [h0] at hlt; simp at hlt
     rcases H2.out with h0 | ⟨b2, off2, rfl, hb2, hc2⟩
     ·rw [HL.out, h0] at hlt; simp at hlt
     have hlt2 : k < ys.length := by rw [← HL.out]; exact hlt
     have cell1 := (((HBX0.out.trans (hS.out.mono HBX0.out.size))).cell (p := ⟨b, off + k, none⟩) hb).trans (hc1 k hlt)
     have cell2 := (((HBX0.out.trans (hS.out.mono HBX0.out.size))).cell (p := ⟨b2, off2 + k, none⟩) hb2).trans (hc2 k hlt2)
     obtain ⟨y, hy⟩ : ∃ y, ys.getD k 0 = y := ⟨_, rfl⟩
     obtain ⟨x, hx⟩ : ∃ x, xs.getD k 0 = x := ⟨_, rfl⟩
     rw [hx] at cell1
     rw [hy] at cell2
     have HX := Hd hx
     have HY := Hd hy
     clear hx hy hc1 hc2
     have i1 : (0 : Int) ≤ (k : Int) := by omega
     have i2 : (k : Int) < (xs.length : Int) := by omega
     have i3 : (k : Int) < (ys.length : Int) := by omega
     by_cases q : x = y
     ·subst q
      have d2 : (x != x) = false := by simp
      go_wp2_with fail
      go_quiet (fail)
      go_wp2
      go_roundw
      case rel => exact ⟨k + 1, by omega, by go_num, Hd (fun j hj => by
       by_cases e : j = k
       ·subst e; rw [HX.out, HY.out]
       ·exact hE.out j (by omega)), Hd (below_drewN_q hS.out _)⟩
      case measure => simp [intOf]; omega
     ·have d2 : (x != y) = true := by simpa using q
      have HN : Hid (decide (xs = ys) = false) := by
       unfold Hid
       simp only [decide_eq_false_iff_not]
       rintro e
       subst e
       exact q (HX.out.symm.trans HY.out)
      clear q
      go_wp2_with fail
      go_quiet (fail)
      go_wp2
      go_ret
      exact ⟨ret_bool (by rw [HE.out, HN.out]), below_drewN_q (HBX0.out.trans (hS.out.mono HBX0.out.size)) _⟩
    ·have : k = xs.length := by omega
     subst this
     have HN : Hid (decide (xs = ys) = true) := by
      unfold Hid
      simp only [decide_eq_true_eq]
      exact eq_of_all HL.out hE.out
     go_wp2
     go_ret
     exact ⟨ret_bool (by rw [HE.out, HN.out]), (HBX0.out.trans (hS.out.mono HBX0.out.size))⟩
  ·have tl : ((xs.length : Int) != ys.length) = true := by simp; omega
   have HE : Hid (sameB e1 xs e2 ys = false) := Hd (by
    unfold sameB
    have : ¬ xs = ys := fun e => ql (by rw [e])
    simp [this])
   clear h1 h2 qe ql
   go_enter Tryz.func31, Tryz.ntmps31
   go_wp2
   go_ret
   exact ⟨ret_bool HE.out.symm, by rw [HXX.out]; exact HBX0.out⟩
 ·have te : (e1 != e2) = true := by simpa using qe
  have HE : Hid (sameB e1 xs e2 ys = false) := Hd (by simp [sameB, qe])
  clear h1 h2 qe
  go_enter Tryz.func31, Tryz.ntmps31
  go_wp2
  go_ret
  exact ⟨ret_bool HE.out.symm, by rw [HXX.out]; exact HBX0.out⟩
end Go.Proofs.YtnancdbkmompdaaGreat.Cv
namespace Go.Proofs.YtnancdbkmompdaaGreat
open Go.RowKit Go.Sort
set_option linter.unusedSimpArgs false
set_option linter.unusedVariables false
set_option maxRecDepth 100000
set_option maxHeartbeats 40000000
theorem rv10 (n0 : Int) (a : Option Addr) (m c : Nat) (rs : List (Cls 1)) (l : List Int) (w : World) (h : RowIs KN numS w (.slice a m c) rs l) (hl : l.length ≤ 1000000) : Calls Tryz.prog 52 #[.agg #[.int .i64 n0, .slice a m c]] w fun e w' => e = .returned (.bool (Cv.valB n0 l)) ∧ Below w.heap.size w w' := by
 obtain ⟨h1, rfl⟩ := irow_of h hl
 exact Cv.rvalidV_any n0 a c l w h1
end Go.Proofs.YtnancdbkmompdaaGreat
