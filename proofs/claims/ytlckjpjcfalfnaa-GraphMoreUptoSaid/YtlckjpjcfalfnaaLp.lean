/-
  Graph, plainly: whatever else there is.
-/
import Derived.Test.YtlckjpjcfalfnaaLs
namespace Go.Proofs.Ytlckjpjcfalfnaa
open Go.RowKit Go.Sort
open Go.WideMaps
set_option linter.unusedSimpArgs false
set_option linter.unusedVariables false
set_option maxRecDepth 100000

/-- One stands ahead of the other. -/
def Bef (l : List I3) (a b : I3) : Prop := ∃ l1 l2 l3, l = l1 ++ a :: (l2 ++ b :: l3)
theorem nd_pos {l : List I3} (hn : l.Nodup) {p q : Nat} {a : I3} (hp : l[p]? = some a) (hq : l[q]? = some a) : p = q := by
  obtain ⟨h1, e1⟩ := List.getElem?_eq_some_iff.1 hp
  obtain ⟨h2, e2⟩ := List.getElem?_eq_some_iff.1 hq
  have hp' := List.pairwise_iff_getElem.1 (show l.Pairwise (· ≠ ·) from hn)
  rcases Nat.lt_trichotomy p q with r | r | r
  · exact absurd (e1.trans e2.symm) (hp' p q h1 h2 r)
  · exact r
  · exact absurd (e2.trans e1.symm) (hp' q p h2 h1 r)
theorem Bef.pos {l : List I3} {a b : I3} (h : Bef l a b) (hn : l.Nodup) {p q : Nat} (hp : l[p]? = some a) (hq : l[q]? = some b) : p < q := by
  obtain ⟨l1, l2, l3, e⟩ := h
  have ea : l[l1.length]? = some a := by rw [e]; simp
  have eb : l[l1.length + 1 + l2.length]? = some b := by
    rw [e, List.getElem?_append_right (by omega)]
    rw [show l1.length + 1 + l2.length - l1.length = l2.length + 1 by omega, List.getElem?_cons_succ, List.getElem?_append_right (Nat.le_refl _)]
    simp
  have h1 := nd_pos hn hp ea
  have h2 := nd_pos hn hq eb
  omega
theorem Bef.mid {o1 o2 : List (List I3)} {g : List I3} {a b : I3} (h : Bef g a b) : Bef (o1 ++ g :: o2).flatten a b := by
  obtain ⟨l1, l2, l3, e⟩ := h
  refine ⟨o1.flatten ++ l1, l2, l3 ++ o2.flatten, ?_⟩
  rw [List.flatten_append, List.flatten_cons, e]
  simp
theorem Bef.over {o1 o2 : List (List I3)} {g : List I3} {a b : I3} (ha : a ∈ o1.flatten) (hb : b ∈ g) : Bef (o1 ++ g :: o2).flatten a b := by
  obtain ⟨s, t, e⟩ := List.append_of_mem ha
  obtain ⟨s2, t2, e2⟩ := List.append_of_mem hb
  refine ⟨s, t ++ s2, t2 ++ o2.flatten, ?_⟩
  rw [List.flatten_append, List.flatten_cons, e, e2]
  simp
theorem pw_bef {R : I3 → I3 → Prop} (hR : ∀ x y, R x y → R y x → False) (hI : ∀ x, ¬ R x x) {g : List I3} (hg : g.Pairwise R) {a b : I3} (ha : a ∈ g) (hb : b ∈ g) (h : R a b) : Bef g a b := by
  obtain ⟨s, t, e⟩ := List.append_of_mem ha
  rw [e] at hg hb
  have q := List.pairwise_append.1 hg
  rcases List.mem_append.1 hb with r | r
  · exact absurd (q.2.2 b r a (List.mem_cons_self ..)) (fun k => hR _ _ h k)
  · rcases List.mem_cons.1 r with r | r
    · subst r; exact absurd h (hI _)
    · obtain ⟨s2, t2, e2⟩ := List.append_of_mem r
      exact ⟨s, s2, t2, by rw [e, e2]⟩
theorem pw_or {R : I3 → I3 → Prop} {g : List I3} (hg : g.Pairwise R) {a b : I3} (ha : a ∈ g) (hb : b ∈ g) (hne : a ≠ b) : R a b ∨ R b a := by
  obtain ⟨s, t, e⟩ := List.append_of_mem ha
  rw [e] at hg hb
  have q := List.pairwise_append.1 hg
  rcases List.mem_append.1 hb with r | r
  · exact .inr (q.2.2 b r a (List.mem_cons_self ..))
  · rcases List.mem_cons.1 r with r | r
    · exact absurd r.symm hne
    · exact .inl ((List.pairwise_cons.1 q.2.1).1 b r)
theorem ltG_asymm (web : List (I3 × NV)) (x y : I3) (h : ltG web x y = true) (k : ltG web y x = true) : False := by
  have q := (ltG_swo web).trans _ _ _ h k
  rw [(ltG_swo web).irrefl] at q
  cases q
/-- Of two that depend on each other, which is first. -/
theorem ord_link {cur : List (I3 × NV)} {os : List (List I3)} (h : OrdSem cur os) {a b : I3} (ha : a ∈ keysV cur) (hd : b ∈ eV cur a) (hne : a ≠ b) : (Rch (eV cur) b a → (ltG cur a b = true → Bef os.flatten a b) ∧ (ltG cur a b = false → Bef os.flatten b a)) ∧ (¬ Rch (eV cur) b a → Bef os.flatten b a) := by
  obtain ⟨g, hg, hag⟩ := List.mem_flatten.1 ((h.mem a).2 ha)
  obtain ⟨o1, o2, e⟩ := List.append_of_mem hg
  have hs := (h.srt g hg).2
  refine ⟨fun hr => ?_, fun hr => ?_⟩
  · have hbg := h.class' e hag (.one hd) hr
    refine ⟨fun hl => ?_, fun hl => ?_⟩
    · rw [e]; exact (pw_bef (ltG_asymm cur) (fun x q => by rw [(ltG_swo cur).irrefl] at q; cases q) hs hag hbg hl).mid
    · have hl2 : ltG cur b a = true := by
        rcases pw_or hs hag hbg hne with q | q
        · rw [hl] at q; cases q
        · exact q
      rw [e]; exact (pw_bef (ltG_asymm cur) (fun x q => by rw [(ltG_swo cur).irrefl] at q; cases q) hs hbg hag hl2).mid
  · rcases h.dep o1 g o2 e a hag b hd with q | q
    · exact absurd ((h.mutu g hg b q a hag).resolve_left (fun e => hne e.symm)) hr
    · rw [e]; exact Bef.over q hag
/-- More nodes: those that were ready are ready. -/
theorem more_sub {ws wl cs cl : List (I3 × NV)} (hw : ∀ x n, getV ws x = some n → getV wl x = some n) (hs : RdyIs ws cs []) (hl : RdyIs wl cl []) : ∀ x ∈ keysV cs, x ∈ keysV cl ∧ stepsV cl x = stepsV cs x ∧ sqOf cl x = sqOf cs x := by
  have hst : ∀ x ∈ keysV cs, stepsV wl x = stepsV ws x ∧ sqOf wl x = sqOf ws x := fun x hx => by
    obtain ⟨n, q⟩ := mem_keys.1 hx
    have q2 := (hs.sub x n q).1
    unfold stepsV sqOf ndOf
    rw [q2, hw x n q2]
    exact ⟨rfl, rfl⟩
  have hin : ∀ x ∈ keysV cs, x ∈ keysV cl := fun x hx => by
    refine hl.great (fun y => y ∈ keysV cs) (fun y hy => ?_) x hx
    obtain ⟨n, q⟩ := mem_keys.1 hy
    refine ⟨mem_keys.2 ⟨n, hw y n (hs.sub y n q).1⟩, by simp, fun d hd => .inr ?_⟩
    rw [(hst y hy).1] at hd
    exact (hs.closed y hy d hd).elim (fun q => by cases q) id
  intro x hx
  have hxl := hin x hx
  refine ⟨hxl, by rw [cur_steps hl hxl, (hst x hx).1, cur_steps hs hx], ?_⟩
  obtain ⟨n, q⟩ := mem_keys.1 hx
  obtain ⟨n2, q2⟩ := mem_keys.1 hxl
  have r := hw x n (hs.sub x n q).1
  have r2 := (hl.sub x n2 q2).1
  rw [r] at r2
  injection r2 with r2
  unfold sqOf ndOf
  rw [q, q2, r2]
/-- Of two that depend on each other the same one is first when there are more. -/
theorem ord_more {ws wl cs cl : List (I3 × NV)} {os ol : List (List I3)} (hw : ∀ x n, getV ws x = some n → getV wl x = some n) (hs : RdyIs ws cs []) (hl : RdyIs wl cl []) (hos : OrdSem cs os) (hol : OrdSem cl ol) {a b : I3} (ha : a ∈ keysV cs) (hb : b ∈ keysV cs) (hd : b ∈ stepsV ws a) (hne : a ≠ b) :
    (Bef os.flatten a b ∧ Bef ol.flatten a b) ∨ (Bef os.flatten b a ∧ Bef ol.flatten b a) := by
  have hsub := more_sub hw hs hl
  have hcl : ∀ x ∈ keysV cs, ∀ d ∈ stepsV ws x, d ∈ keysV cs := fun x hx d hd => (hs.closed x hx d hd).elim (fun q => by cases q) id
  have hes : ∀ x ∈ keysV cs, ∀ d, d ∈ eV cs x ↔ d ∈ stepsV ws x := fun x hx d => by
    rw [mem_eV, cur_steps hs hx]
    exact ⟨fun q => q.1, fun q => ⟨q, by rw [getV_isSome, hasI_iff]; exact hcl x hx d q⟩⟩
  have hel : ∀ x ∈ keysV cs, ∀ d, d ∈ eV cl x ↔ d ∈ stepsV ws x := fun x hx d => by
    rw [mem_eV, (hsub x hx).2.1, cur_steps hs hx]
    exact ⟨fun q => q.1, fun q => ⟨q, by rw [getV_isSome, hasI_iff]; exact (hsub d (hcl x hx d q)).1⟩⟩
  have hr1 : ∀ x y, x ∈ keysV cs → Rch (eV cs) x y → Rch (eV cl) x y ∧ y ∈ keysV cs := fun x y hx q => by
    induction q with
    | one hd => have r := (hes _ hx _).1 hd; exact ⟨.one ((hel _ hx _).2 r), hcl _ hx _ r⟩
    | more _ hd ih => have r := (hes _ ih.2 _).1 hd; exact ⟨.more ih.1 ((hel _ ih.2 _).2 r), hcl _ ih.2 _ r⟩
  have hr2 : ∀ x y, x ∈ keysV cs → Rch (eV cl) x y → Rch (eV cs) x y ∧ y ∈ keysV cs := fun x y hx q => by
    induction q with
    | one hd => have r := (hel _ hx _).1 hd; exact ⟨.one ((hes _ hx _).2 r), hcl _ hx _ r⟩
    | more _ hd ih => have r := (hel _ ih.2 _).1 hd; exact ⟨.more ih.1 ((hes _ ih.2 _).2 r), hcl _ ih.2 _ r⟩
  have hlt : ltG cl a b = ltG cs a b := by
    unfold ltG
    rw [(hsub a ha).2.2, (hsub b hb).2.2]
  obtain ⟨s1, s2⟩ := ord_link hos ha ((hes a ha b).2 hd) hne
  obtain ⟨l1, l2⟩ := ord_link hol (hsub a ha).1 ((hel a ha b).2 hd) hne
  by_cases hr : Rch (eV cs) b a
  · have hrl := (hr1 b a hb hr).1
    cases q : ltG cs a b with
    | true => exact .inl ⟨(s1 hr).1 q, (l1 hrl).1 (hlt.trans q)⟩
    | false => exact .inr ⟨(s1 hr).2 q, (l1 hrl).2 (hlt.trans q)⟩
  · exact .inr ⟨s2 hr, l2 (fun q => hr (hr2 b a hb q).1)⟩
/-- The same told by places. -/
theorem ord_more_at {ws wl cs cl : List (I3 × NV)} {os ol : List (List I3)} (hw : ∀ x n, getV ws x = some n → getV wl x = some n) (hs : RdyIs ws cs []) (hl : RdyIs wl cl []) (hos : OrdSem cs os) (hol : OrdSem cl ol) {a b : I3} (hd : b ∈ stepsV ws a ∨ a ∈ stepsV ws b) {p q p' q' : Nat} (hp : os.flatten[p]? = some a) (hq : os.flatten[q]? = some b) (hp' : ol.flatten[p']? = some a) (hq' : ol.flatten[q']? = some b) : (p < q ↔ p' < q') := by
  have ha : a ∈ keysV cs := (hos.mem a).1 (List.mem_of_getElem? hp)
  have hb : b ∈ keysV cs := (hos.mem b).1 (List.mem_of_getElem? hq)
  by_cases hne : a = b
  · subst hne
    have e1 := nd_pos hos.nd hp hq
    have e2 := nd_pos hol.nd hp' hq'
    omega
  · have key : (Bef os.flatten a b ∧ Bef ol.flatten a b) ∨ (Bef os.flatten b a ∧ Bef ol.flatten b a) := by
      rcases hd with hd | hd
      · exact ord_more hw hs hl hos hol ha hb hd hne
      · exact (ord_more hw hs hl hos hol hb ha hd (fun e => hne e.symm)).symm
    rcases key with ⟨k1, k2⟩ | ⟨k1, k2⟩
    · have e1 := k1.pos hos.nd hp hq
      have e2 := k2.pos hol.nd hp' hq'
      omega
    · have e1 := k1.pos hos.nd hq hp
      have e2 := k2.pos hol.nd hq' hp'
      omega
theorem more_in {ws wl cs cl : List (I3 × NV)} {os ol : List (List I3)} (hw : ∀ x n, getV ws x = some n → getV wl x = some n) (hs : RdyIs ws cs []) (hl : RdyIs wl cl []) (hos : OrdSem cs os) (hol : OrdSem cl ol) {a : I3} (ha : a ∈ os.flatten) : a ∈ ol.flatten :=
  (hol.mem a).2 (more_sub hw hs hl a ((hos.mem a).1 ha)).1
end Go.Proofs.Ytlckjpjcfalfnaa
