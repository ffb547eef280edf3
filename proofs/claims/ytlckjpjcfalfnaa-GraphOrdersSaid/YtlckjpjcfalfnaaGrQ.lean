/-
  Texts put together: Ld, Ls, Lp, Lq, Qa, Qb, Qc, Qd, Qe, Qf, Qg, Qh, Qi.
-/
import Derived.Test.YtlckjpjcfalfnaaLc
import Derived.Test.YtlckjpjcfalfnaaOs
import Derived.Deep.RegionLaw
import Derived.BigQuiet
import Derived.Test.YtlckjpjcfalfnaaIdQ
import Derived.Test.YtlckjpjcfalfnaaIo
namespace Go.Proofs.Ytlckjpjcfalfnaa
open Go.RowKit Go.Sort
open Go.WideMaps
set_option linter.unusedSimpArgs false
set_option linter.unusedVariables false
set_option maxRecDepth 100000

/-- A node that came in, in any later world. -/
theorem node_at {w : World} {nv : List NV} {a : Option Addr} {N c : Nat} (h : NRow w (.slice a N c) nv) (i : Nat) (hi : i < nv.length) : ∃ g off j1 j2 j3 sq dl na nc, a = some ⟨g, off, none⟩ ∧ nv[i] = (⟨⟨(j1, j2, j3), sq, dl⟩, na, nc⟩ : NV) ∧ okI (j1, j2, j3) ∧ okL dl ∧ ∀ W, Below w.heap.size w W →
    W.cell? ⟨g, off + i * 5, none⟩ = some (.int .i64 j1) ∧ W.cell? ⟨g, off + i * 5 + 1, none⟩ = some (.int .i64 j2) ∧ W.cell? ⟨g, off + i * 5 + 2, none⟩ = some (.int .i64 j3) ∧ W.cell? ⟨g, off + i * 5 + 3, none⟩ = some (.int .i64 sq) ∧ W.cell? ⟨g, off + i * 5 + 4, none⟩ = some (.slice na dl.length nc) ∧ IK.Rd W (.slice na dl.length nc) dl := by
  obtain ⟨a', c', e, _, hel⟩ := h.el
  simp only [Value.slice.injEq] at e
  obtain ⟨rfl, rfl, rfl⟩ := e
  obtain ⟨g, off, ha, hg, hc⟩ := hel i hi
  have hok := h.ok _ (List.getElem_mem hi)
  obtain ⟨nn, hnn⟩ : ∃ n, nv[i] = n := ⟨_, rfl⟩
  rw [hnn] at hc hok
  obtain ⟨⟨⟨j1, j2, j3⟩, sq, dl⟩, na, nc⟩ := nn
  refine ⟨g, off, j1, j2, j3, sq, dl, na, nc, ha, hnn, hok.1, hok.2.1, fun W hb => ?_⟩
  have q := fun (k : Nat) (u : Value) (hu : (ndC ⟨⟨(j1, j2, j3), sq, dl⟩, na, nc⟩)[k]? = some u) => (hb.cell (p := ⟨g, off + i * 5 + k, none⟩) hg).trans (hc k u hu)
  exact ⟨q 0 _ rfl, q 1 _ rfl, q 2 _ rfl, q 3 _ rfl, q 4 _ rfl, hok.2.2.below hb⟩
def RbIs (b : Bool) (P : Prop) : Prop := b = true ↔ P
theorem RbIs.iff {b : Bool} {P : Prop} (h : RbIs b P) : b = true ↔ P := h
theorem webL_get {nv : List NV} (h : (nv.map (·.d.id)).Nodup) {n : NV} (hn : n ∈ nv) : getV (webL nv) n.d.id = some n := by
  refine (getV_some (webL_nodup nv)).2 ?_
  rw [webL_all nv h]
  exact List.mem_map.2 ⟨n, hn, rfl⟩
theorem webL_steps {nv : List NV} (h : (nv.map (·.d.id)).Nodup) {n : NV} (hn : n ∈ nv) : stepsV (webL nv) n.d.id = n.d.dl := by
  unfold stepsV ndOf
  rw [webL_get h hn]
  rfl
theorem cur_steps {web cur : List (I3 × NV)} {dn : List I3} (h : RdyIs web cur dn) {x : I3} (hx : x ∈ keysV cur) : stepsV cur x = stepsV web x := by
  obtain ⟨n, q⟩ := mem_keys.1 hx
  unfold stepsV ndOf
  rw [q, (h.sub x n q).1]
/-- The answer of Order, told by what leads where; and Flat's. -/
theorem flat_few {nv : List NV} {cur : List (I3 × NV)} {dn : List I3} {os : List (List I3)} (h : OrdSem cur os) (hr : RdyIs (webL nv) cur dn) (hn : (keysV cur).Nodup) (hl : nv.length ≤ 14) : os.flatten.length ≤ 14 ∧ os.length ≤ 14 := by
  have h1 := len_sub h.nd (k := keysV cur) fun x hx => (h.mem x).1 hx
  have h2 := hr.len hn
  have h3 := webL_len nv
  have h0 : (keysV cur).length = cur.length := by simp [keysV]
  have h4 : ∀ l : List (List I3), (∀ g ∈ l, g ≠ []) → l.length ≤ l.flatten.length := fun l => by
    induction l with
    | nil => intro _; exact Nat.le_refl _
    | cons g l ih =>
      intro hg
      have := ih (fun k hk => hg k (List.mem_cons_of_mem _ hk))
      have := List.length_pos_iff.2 (hg g (List.mem_cons_self ..))
      rw [List.length_cons, List.flatten_cons, List.length_append]
      omega
  have h5 := h4 os (fun g hg => (h.srt g hg).1)
  omega
end Go.Proofs.Ytlckjpjcfalfnaa
namespace Go.Proofs.Ytlckjpjcfalfnaa
open Go.RowKit Go.Sort
open Go.WideMaps
set_option linter.unusedSimpArgs false
set_option linter.unusedVariables false
set_option maxRecDepth 100000

theorem ltG_cur {web c1 c2 : List (I3 × NV)} {d1 d2 : List I3} (h1 : RdyIs web c1 d1) (h2 : RdyIs web c2 d2) {x y : I3} (hx : x ∈ keysV c1) (hx2 : x ∈ keysV c2) (hy : y ∈ keysV c1) (hy2 : y ∈ keysV c2) : ltG c1 x y = ltG c2 x y := by
  have e : ∀ z, z ∈ keysV c1 → z ∈ keysV c2 → sqOf c1 z = sqOf c2 z := fun z hz hz2 => by
    obtain ⟨n, q⟩ := mem_keys.1 hz
    obtain ⟨n2, q2⟩ := mem_keys.1 hz2
    unfold sqOf ndOf
    rw [q, q2]
    have r := (h1.sub z n q).1
    have r2 := (h2.sub z n2 q2).1
    rw [r] at r2
    injection r2 with r2
    rw [r2]
  unfold ltG
  rw [e x hx hx2, e y hy hy2]
/-- What is ahead of a cut leads to nothing behind it. -/
theorem OrdSem.cut {web : List (I3 × NV)} {os : List (List I3)} (h : OrdSem web os) {A B : List (List I3)} (eA : os = A ++ B) : ∀ c ∈ A.flatten, ∀ d ∈ eV web c, d ∈ A.flatten := fun c hc d hd => by
  obtain ⟨t, ht, hct⟩ := List.mem_flatten.1 hc
  obtain ⟨a1, a2, e1⟩ := List.append_of_mem ht
  rw [e1] at eA ⊢
  rw [List.append_assoc, List.cons_append] at eA
  rcases h.dep a1 t (a2 ++ B) eA c hct d hd with q | q
  · simp [q]
  · rw [List.flatten_append]; exact List.mem_append_left _ q
theorem ord_steps {web cur cur' : List (I3 × NV)} {A R : List (List I3)} (hr : RdyIs web cur []) (h : OrdSem cur (A ++ R)) (hr' : RdyIs web cur' A.flatten) : OrdSem cur' R := by
  have hnd := h.nd
  rw [List.flatten_append, List.nodup_append] at hnd
  have hmem : ∀ x, x ∈ keysV cur ↔ x ∈ A.flatten ∨ x ∈ R.flatten := fun x => by rw [← h.mem, List.flatten_append, List.mem_append]
  have hcl : ∀ x ∈ keysV cur, ∀ d ∈ stepsV web x, d ∈ keysV cur := fun x hx d hd => (hr.closed x hx d hd).elim (fun q => by cases q) id
  have hec : ∀ x ∈ keysV cur, ∀ d, d ∈ eV cur x ↔ d ∈ stepsV web x := fun x hx d => by
    rw [mem_eV, cur_steps hr hx]
    exact ⟨fun q => q.1, fun q => ⟨q, by rw [getV_isSome, hasI_iff]; exact hcl x hx d q⟩⟩
  have hks : ∀ x, x ∈ keysV cur' ↔ x ∈ R.flatten := fun x => by
    constructor
    · intro hx
      have hxA : x ∉ A.flatten := by
        obtain ⟨n, q⟩ := mem_keys.1 hx
        exact (hr'.sub x n q).2
      have hxc : x ∈ keysV cur := by
        refine hr.great (fun y => y ∈ keysV cur' ∨ y ∈ A.flatten) (fun y hy => ?_) x (.inl hx)
        rcases hy with hy | hy
        · obtain ⟨n, q⟩ := mem_keys.1 hy
          refine ⟨mem_keys.2 ⟨n, (hr'.sub y n q).1⟩, by simp, fun d hd => .inr ?_⟩
          rcases hr'.closed y hy d hd with r | r
          · exact .inr r
          · exact .inl r
        · have hyc := (hmem y).2 (.inl hy)
          obtain ⟨n, q⟩ := mem_keys.1 hyc
          exact ⟨mem_keys.2 ⟨n, (hr.sub y n q).1⟩, by simp, fun d hd => .inr (.inr (h.cut rfl y hy d ((hec y hyc d).2 hd)))⟩
      rcases (hmem x).1 hxc with q | q
      · exact absurd q hxA
      · exact q
    · intro hx
      refine hr'.great (fun y => y ∈ R.flatten) (fun y hy => ?_) x hx
      have hyc := (hmem y).2 (.inr hy)
      obtain ⟨n, q⟩ := mem_keys.1 hyc
      refine ⟨mem_keys.2 ⟨n, (hr.sub y n q).1⟩, fun r => hnd.2.2 y r y hy rfl, fun d hd => ?_⟩
      exact (hmem d).1 (hcl y hyc d hd)
  have hkc : ∀ x ∈ keysV cur', x ∈ keysV cur := fun x hx => (hmem x).2 (.inr ((hks x).1 hx))
  have hee : ∀ x ∈ keysV cur', ∀ d, d ∈ eV cur' x ↔ d ∈ eV cur x ∧ d ∈ keysV cur' := fun x hx d => by
    rw [mem_eV, cur_steps hr' hx, getV_isSome, hasI_iff, hec x (hkc x hx)]
  have hgk : ∀ g ∈ R, ∀ x ∈ g, x ∈ keysV cur' := fun g hg x hx => (hks x).2 (List.mem_flatten.2 ⟨g, hg, hx⟩)
  refine ⟨hnd.2.1, fun x => (hks x).symm, fun g hg => ?_, fun g hg x hx y hy => ?_, fun o1 g o2 e x hx d hd => ?_, fun o1 g o2 e t ht hp => ?_⟩
  · obtain ⟨q1, q2⟩ := h.srt g (List.mem_append_right _ hg)
    refine ⟨q1, q2.imp_of_mem fun {a b} ha hb q => ?_⟩
    rw [← ltG_cur hr hr' (hkc a (hgk g hg a ha)) (hgk g hg a ha) (hkc b (hgk g hg b hb)) (hgk g hg b hb)]
    exact q
  · obtain ⟨r1, r2, er⟩ := List.append_of_mem hg
    have eg : A ++ R = (A ++ r1) ++ g :: r2 := by rw [er]; simp
    rcases h.mutu g (List.mem_append_right _ hg) x hx y hy with q | q
    · exact .inl q
    · right
      have hin : ∀ z, Rch (eV cur) x z → (z = y ∨ Rch (eV cur) z y) → z ∈ g := fun z hxz hzy => by
        rcases hzy with e | hzy
        · rw [e]; exact hy
        · rcases h.mutu g (List.mem_append_right _ hg) y hy x hx with e | hyx
          · rw [e] at hzy; exact h.class' eg hx hxz hzy
          · exact h.class' eg hx hxz (hzy.trans hyx)
      have go : ∀ z, Rch (eV cur) x z → (z = y ∨ Rch (eV cur) z y) → Rch (eV cur') x z := fun z hxz => by
        induction hxz with
        | @one z hz =>
          intro hzy
          exact .one ((hee x (hgk g hg x hx) z).2 ⟨hz, hgk g hg z (hin z (.one hz) hzy)⟩)
        | @more w z hw hz ih =>
          intro hzy
          have hwy : Rch (eV cur) w y := by
            rcases hzy with e | e
            · rw [← e]; exact .one hz
            · exact (Rch.one hz).trans e
          have hwg := hin w hw (.inr hwy)
          exact .more (ih (.inr hwy)) ((hee w (hgk g hg w hwg) z).2 ⟨hz, hgk g hg z (hin z (.more hw hz) hzy)⟩)
      exact go y q (.inl rfl)
  · have hxk := hgk g (by rw [e]; simp) x hx
    obtain ⟨q1, q2⟩ := (hee x hxk d).1 hd
    rcases h.dep (A ++ o1) g o2 (by rw [e]; simp) x hx d q1 with r | r
    · exact .inl r
    · rw [List.flatten_append, List.mem_append] at r
      rcases r with r | r
      · exact absurd ((hks d).1 q2) (fun s => hnd.2.2 d r d s rfl)
      · exact .inr r
  · refine h.lst (A ++ o1) g o2 (by rw [e]; simp) t ht fun x hx d hd => ?_
    have hxk := hgk t (by rw [e]; simp [ht]) x hx
    have hdc := (hmem d).1 (hcl x (hkc x hxk) d ((hec x (hkc x hxk) d).1 hd))
    rcases hdc with r | r
    · exact .inr (by rw [List.flatten_append]; exact List.mem_append_left _ r)
    · rcases hp x hx d ((hee x hxk d).2 ⟨hd, (hks d).2 r⟩) with s | s
      · exact .inl s
      · exact .inr (by rw [List.flatten_append]; exact List.mem_append_right _ s)
end Go.Proofs.Ytlckjpjcfalfnaa
namespace Go.Proofs.Ytlckjpjcfalfnaa
open Go.RowKit Go.Sort
open Go.WideMaps
set_option linter.unusedSimpArgs false
set_option linter.unusedVariables false
set_option maxRecDepth 100000

/-- One stands ahead of the other. -/
def Bef (l : List I3) (a b : I3) : Prop := ∃ l1 l2 l3, l = l1 ++ a :: (l2 ++ b :: l3)
theorem nd_pos {l : List I3} (hn : l.Nodup) {p q : Nat} {a : I3} (hp : l[p]? = some a) (hq : l[q]? = some a) : p = q := by
  obtain ⟨h1, e1⟩ := List.getElem?_eq_some_iff.1 hp
  obtain ⟨h2, e2⟩ := List.getElem?_eq_some_iff.1 hq
  have hp' := List.pairwise_iff_getElem.1 (show l.Pairwise (· ≠ ·) from hn)
  rcases Nat.lt_trichotomy p q with r | r | r
  · exact absurd (e1.trans e2.symm) (hp' p q h1 h2 r)
  · exact r
  · exact absurd (e2.trans e1.symm) (hp' q p h2 h1 r)
theorem Bef.pos {l : List I3} {a b : I3} (h : Bef l a b) (hn : l.Nodup) {p q : Nat} (hp : l[p]? = some a) (hq : l[q]? = some b) : p < q := by
  obtain ⟨l1, l2, l3, e⟩ := h
  have ea : l[l1.length]? = some a := by rw [e]; simp
  have eb : l[l1.length + 1 + l2.length]? = some b := by
    rw [e, List.getElem?_append_right (by omega)]
    rw [show l1.length + 1 + l2.length - l1.length = l2.length + 1 by omega, List.getElem?_cons_succ, List.getElem?_append_right (Nat.le_refl _)]
    simp
  have h1 := nd_pos hn hp ea
  have h2 := nd_pos hn hq eb
  omega
theorem Bef.mid {o1 o2 : List (List I3)} {g : List I3} {a b : I3} (h : Bef g a b) : Bef (o1 ++ g :: o2).flatten a b := by
  obtain ⟨l1, l2, l3, e⟩ := h
  refine ⟨o1.flatten ++ l1, l2, l3 ++ o2.flatten, ?_⟩
  rw [List.flatten_append, List.flatten_cons, e]
  simp
theorem Bef.over {o1 o2 : List (List I3)} {g : List I3} {a b : I3} (ha : a ∈ o1.flatten) (hb : b ∈ g) : Bef (o1 ++ g :: o2).flatten a b := by
  obtain ⟨s, t, e⟩ := List.append_of_mem ha
  obtain ⟨s2, t2, e2⟩ := List.append_of_mem hb
  refine ⟨s, t ++ s2, t2 ++ o2.flatten, ?_⟩
  rw [List.flatten_append, List.flatten_cons, e, e2]
  simp
theorem pw_bef {R : I3 → I3 → Prop} (hR : ∀ x y, R x y → R y x → False) (hI : ∀ x, ¬ R x x) {g : List I3} (hg : g.Pairwise R) {a b : I3} (ha : a ∈ g) (hb : b ∈ g) (h : R a b) : Bef g a b := by
  obtain ⟨s, t, e⟩ := List.append_of_mem ha
  rw [e] at hg hb
  have q := List.pairwise_append.1 hg
  rcases List.mem_append.1 hb with r | r
  · exact absurd (q.2.2 b r a (List.mem_cons_self ..)) (fun k => hR _ _ h k)
  · rcases List.mem_cons.1 r with r | r
    · subst r; exact absurd h (hI _)
    · obtain ⟨s2, t2, e2⟩ := List.append_of_mem r
      exact ⟨s, s2, t2, by rw [e, e2]⟩
theorem pw_or {R : I3 → I3 → Prop} {g : List I3} (hg : g.Pairwise R) {a b : I3} (ha : a ∈ g) (hb : b ∈ g) (hne : a ≠ b) : R a b ∨ R b a := by
  obtain ⟨s, t, e⟩ := List.append_of_mem ha
  rw [e] at hg hb
  have q := List.pairwise_append.1 hg
  rcases List.mem_append.1 hb with r | r
  · exact .inr (q.2.2 b r a (List.mem_cons_self ..))
  · rcases List.mem_cons.1 r with r | r
    · exact absurd r.symm hne
    · exact .inl ((List.pairwise_cons.1 q.2.1).1 b r)
theorem ltG_asymm (web : List (I3 × NV)) (x y : I3) (h : ltG web x y = true) (k : ltG web y x = true) : False := by
  have q := (ltG_swo web).trans _ _ _ h k
  rw [(ltG_swo web).irrefl] at q
  cases q
/-- Of two that depend on each other, which is first. -/
theorem ord_link {cur : List (I3 × NV)} {os : List (List I3)} (h : OrdSem cur os) {a b : I3} (ha : a ∈ keysV cur) (hd : b ∈ eV cur a) (hne : a ≠ b) : (Rch (eV cur) b a → (ltG cur a b = true → Bef os.flatten a b) ∧ (ltG cur a b = false → Bef os.flatten b a)) ∧ (¬ Rch (eV cur) b a → Bef os.flatten b a) := by
  obtain ⟨g, hg, hag⟩ := List.mem_flatten.1 ((h.mem a).2 ha)
  obtain ⟨o1, o2, e⟩ := List.append_of_mem hg
  have hs := (h.srt g hg).2
  refine ⟨fun hr => ?_, fun hr => ?_⟩
  · have hbg := h.class' e hag (.one hd) hr
    refine ⟨fun hl => ?_, fun hl => ?_⟩
    · rw [e]; exact (pw_bef (ltG_asymm cur) (fun x q => by rw [(ltG_swo cur).irrefl] at q; cases q) hs hag hbg hl).mid
    · have hl2 : ltG cur b a = true := by
        rcases pw_or hs hag hbg hne with q | q
        · rw [hl] at q; cases q
        · exact q
      rw [e]; exact (pw_bef (ltG_asymm cur) (fun x q => by rw [(ltG_swo cur).irrefl] at q; cases q) hs hbg hag hl2).mid
  · rcases h.dep o1 g o2 e a hag b hd with q | q
    · exact absurd ((h.mutu g hg b q a hag).resolve_left (fun e => hne e.symm)) hr
    · rw [e]; exact Bef.over q hag
/-- More nodes: those that were ready are ready. -/
theorem more_sub {ws wl cs cl : List (I3 × NV)} (hw : ∀ x n, getV ws x = some n → getV wl x = some n) (hs : RdyIs ws cs []) (hl : RdyIs wl cl []) : ∀ x ∈ keysV cs, x ∈ keysV cl ∧ stepsV cl x = stepsV cs x ∧ sqOf cl x = sqOf cs x := by
  have hst : ∀ x ∈ keysV cs, stepsV wl x = stepsV ws x ∧ sqOf wl x = sqOf ws x := fun x hx => by
    obtain ⟨n, q⟩ := mem_keys.1 hx
    have q2 := (hs.sub x n q).1
    unfold stepsV sqOf ndOf
    rw [q2, hw x n q2]
    exact ⟨rfl, rfl⟩
  have hin : ∀ x ∈ keysV cs, x ∈ keysV cl := fun x hx => by
    refine hl.great (fun y => y ∈ keysV cs) (fun y hy => ?_) x hx
    obtain ⟨n, q⟩ := mem_keys.1 hy
    refine ⟨mem_keys.2 ⟨n, hw y n (hs.sub y n q).1⟩, by simp, fun d hd => .inr ?_⟩
    rw [(hst y hy).1] at hd
    exact (hs.closed y hy d hd).elim (fun q => by cases q) id
  intro x hx
  have hxl := hin x hx
  refine ⟨hxl, by rw [cur_steps hl hxl, (hst x hx).1, cur_steps hs hx], ?_⟩
  obtain ⟨n, q⟩ := mem_keys.1 hx
  obtain ⟨n2, q2⟩ := mem_keys.1 hxl
  have r := hw x n (hs.sub x n q).1
  have r2 := (hl.sub x n2 q2).1
  rw [r] at r2
  injection r2 with r2
  unfold sqOf ndOf
  rw [q, q2, r2]
/-- Of two that depend on each other the same one is first when there are more. -/
theorem ord_more {ws wl cs cl : List (I3 × NV)} {os ol : List (List I3)} (hw : ∀ x n, getV ws x = some n → getV wl x = some n) (hs : RdyIs ws cs []) (hl : RdyIs wl cl []) (hos : OrdSem cs os) (hol : OrdSem cl ol) {a b : I3} (ha : a ∈ keysV cs) (hb : b ∈ keysV cs) (hd : b ∈ stepsV ws a) (hne : a ≠ b) :
    (Bef os.flatten a b ∧ Bef ol.flatten a b) ∨ (Bef os.flatten b a ∧ Bef ol.flatten b a) := by
  have hsub := more_sub hw hs hl
  have hcl : ∀ x ∈ keysV cs, ∀ d ∈ stepsV ws x, d ∈ keysV cs := fun x hx d hd => (hs.closed x hx d hd).elim (fun q => by cases q) id
  have hes : ∀ x ∈ keysV cs, ∀ d, d ∈ eV cs x ↔ d ∈ stepsV ws x := fun x hx d => by
    rw [mem_eV, cur_steps hs hx]
    exact ⟨fun q => q.1, fun q => ⟨q, by rw [getV_isSome, hasI_iff]; exact hcl x hx d q⟩⟩
  have hel : ∀ x ∈ keysV cs, ∀ d, d ∈ eV cl x ↔ d ∈ stepsV ws x := fun x hx d => by
    rw [mem_eV, (hsub x hx).2.1, cur_steps hs hx]
    exact ⟨fun q => q.1, fun q => ⟨q, by rw [getV_isSome, hasI_iff]; exact (hsub d (hcl x hx d q)).1⟩⟩
  have hr1 : ∀ x y, x ∈ keysV cs → Rch (eV cs) x y → Rch (eV cl) x y ∧ y ∈ keysV cs := fun x y hx q => by
    induction q with
    | one hd => have r := (hes _ hx _).1 hd; exact ⟨.one ((hel _ hx _).2 r), hcl _ hx _ r⟩
    | more _ hd ih => have r := (hes _ ih.2 _).1 hd; exact ⟨.more ih.1 ((hel _ ih.2 _).2 r), hcl _ ih.2 _ r⟩
  have hr2 : ∀ x y, x ∈ keysV cs → Rch (eV cl) x y → Rch (eV cs) x y ∧ y ∈ keysV cs := fun x y hx q => by
    induction q with
    | one hd => have r := (hel _ hx _).1 hd; exact ⟨.one ((hes _ hx _).2 r), hcl _ hx _ r⟩
    | more _ hd ih => have r := (hel _ ih.2 _).1 hd; exact ⟨.more ih.1 ((hes _ ih.2 _).2 r), hcl _ ih.2 _ r⟩
  have hlt : ltG cl a b = ltG cs a b := by
    unfold ltG
    rw [(hsub a ha).2.2, (hsub b hb).2.2]
  obtain ⟨s1, s2⟩ := ord_link hos ha ((hes a ha b).2 hd) hne
  obtain ⟨l1, l2⟩ := ord_link hol (hsub a ha).1 ((hel a ha b).2 hd) hne
  by_cases hr : Rch (eV cs) b a
  · have hrl := (hr1 b a hb hr).1
    cases q : ltG cs a b with
    | true => exact .inl ⟨(s1 hr).1 q, (l1 hrl).1 (hlt.trans q)⟩
    | false => exact .inr ⟨(s1 hr).2 q, (l1 hrl).2 (hlt.trans q)⟩
  · exact .inr ⟨s2 hr, l2 (fun q => hr (hr2 b a hb q).1)⟩
/-- The same told by places. -/
theorem ord_more_at {ws wl cs cl : List (I3 × NV)} {os ol : List (List I3)} (hw : ∀ x n, getV ws x = some n → getV wl x = some n) (hs : RdyIs ws cs []) (hl : RdyIs wl cl []) (hos : OrdSem cs os) (hol : OrdSem cl ol) {a b : I3} (hd : b ∈ stepsV ws a ∨ a ∈ stepsV ws b) {p q p' q' : Nat} (hp : os.flatten[p]? = some a) (hq : os.flatten[q]? = some b) (hp' : ol.flatten[p']? = some a) (hq' : ol.flatten[q']? = some b) : (p < q ↔ p' < q') := by
  have ha : a ∈ keysV cs := (hos.mem a).1 (List.mem_of_getElem? hp)
  have hb : b ∈ keysV cs := (hos.mem b).1 (List.mem_of_getElem? hq)
  by_cases hne : a = b
  · subst hne
    have e1 := nd_pos hos.nd hp hq
    have e2 := nd_pos hol.nd hp' hq'
    omega
  · have key : (Bef os.flatten a b ∧ Bef ol.flatten a b) ∨ (Bef os.flatten b a ∧ Bef ol.flatten b a) := by
      rcases hd with hd | hd
      · exact ord_more hw hs hl hos hol ha hb hd hne
      · exact (ord_more hw hs hl hos hol hb ha hd (fun e => hne e.symm)).symm
    rcases key with ⟨k1, k2⟩ | ⟨k1, k2⟩
    · have e1 := k1.pos hos.nd hp hq
      have e2 := k2.pos hol.nd hp' hq'
      omega
    · have e1 := k1.pos hos.nd hq hp
      have e2 := k2.pos hol.nd hq' hp'
      omega
theorem more_in {ws wl cs cl : List (I3 × NV)} {os ol : List (List I3)} (hw : ∀ x n, getV ws x = some n → getV wl x = some n) (hs : RdyIs ws cs []) (hl : RdyIs wl cl []) (hos : OrdSem cs os) (hol : OrdSem cl ol) {a : I3} (ha : a ∈ os.flatten) : a ∈ ol.flatten :=
  (hol.mem a).2 (more_sub hw hs hl a ((hos.mem a).1 ha)).1
end Go.Proofs.Ytlckjpjcfalfnaa
namespace Go.Proofs.Ytlckjpjcfalfnaa
open Go.RowKit Go.Sort
open Go.WideMaps
set_option linter.unusedSimpArgs false
set_option linter.unusedVariables false
set_option maxRecDepth 100000

theorem ndC_len (n : NV) : (ndC n).length = 5 := rfl
theorem ndC_one (n : NV) : ∀ v ∈ ndC n, v.oneCell' = true := ndE_one rfl
/-- A node's cells. -/
def nvC (n : NV) : Cls 5 := ⟨ndC n, ndC_len n, ndC_one n⟩
theorem nk_rd {W : World} {v : Value} {nv : List NV} (h : NRow W v nv) (hz : ∀ n c, v = .slice none n c → c = 0) : NK.Rd W v (nv.map nvC) := by
  obtain ⟨a, c, e, hl, hel⟩ := h.el
  refine ⟨a, c, by rw [List.length_map]; exact e, by rw [List.length_map]; exact hl, fun q => hz nv.length c (by rw [← q]; exact e), ?_⟩
  cases hn : nv with
  | nil => exact .inl rfl
  | cons n0 l0 =>
    right
    have h0 : 0 < nv.length := by rw [hn]; simp
    obtain ⟨g, off, ha, hg, _⟩ := hel 0 h0
    refine ⟨g, off, ha, hg, fun t u hu => ?_⟩
    rw [← hn] at hu
    have ht : t < (NK.row (nv.map nvC)).length := (List.getElem?_eq_some_iff.1 hu).1
    rw [NK.row_flat _ t ht] at hu
    rw [NK.row_len, List.length_map] at ht
    have eK : NK.k = 5 := rfl
    rw [eK] at hu ht
    have hj : t / 5 < nv.length := by omega
    obtain ⟨g', off', ha', _, hc⟩ := hel (t / 5) hj
    rw [ha] at ha'
    simp only [Option.some.injEq, Addr.mk.injEq, and_true] at ha'
    obtain ⟨rfl, rfl⟩ := ha'
    have e5 : (nv.map nvC).getD (t / 5) NK.d = nvC nv[t / 5] := by simp [List.getD, hj]
    rw [e5] at hu
    have q := hc (t % 5) u hu
    rwa [show off + t / 5 * 5 + t % 5 = off + t by omega] at q
theorem nrow_rd {W : World} {v : Value} {nv : List NV} (h : NK.Rd W v (nv.map nvC)) (ho : ∀ n ∈ nv, n.Ok W) : NRow W v nv := by
  obtain ⟨a, c, e⟩ := h.slice
  rw [List.length_map] at e
  have hl := h.len
  rw [List.length_map] at hl
  refine ⟨⟨a, c, e, hl, fun j hj => ?_⟩, ho⟩
  subst e
  obtain ⟨-, g, off, ha, hg, hc⟩ := h.at (by intro e; have := congrArg List.length e; simp at this; subst this; simp at hj)
  refine ⟨g, off, ha, hg, fun i u hu => ?_⟩
  have e5 : (nv.map nvC).getD j NK.d = nvC nv[j] := by simp [List.getD, hj]
  have q := hc j hj i u (by rw [e5]; exact hu)
  have eK : NK.k = 5 := rfl
  rwa [eK] at q
/-- The smaller web's nodes are nodes of the bigger one. -/
theorem webL_more {l k : List NV} (h : ((l ++ k).map (·.d.id)).Nodup) : ∀ x n, getV (webL l) x = some n → getV (webL (l ++ k)) x = some n := fun x n q => by
  have h1 : (l.map (·.d.id)).Nodup := by rw [List.map_append, List.nodup_append] at h; exact h.1
  have q2 := (getV_some (webL_nodup l)).1 q
  rw [webL_all l h1] at q2
  obtain ⟨m, hm, e⟩ := List.mem_map.1 q2
  simp only [Prod.mk.injEq] at e
  obtain ⟨rfl, rfl⟩ := e
  exact webL_get h (List.mem_append_left _ hm)
theorem fw_more {l k : List NV} {dn : List I3} (h : Fw (l ++ k) dn) : Fw l dn := by
  refine ⟨?_, fun n hn => h.steps n (List.mem_append_left _ hn), h.over⟩
  have := h.few
  rw [List.length_append] at this
  omega
/-- 'append(l, x...)' of rows of one's own, up to the form's reach. -/
theorem Knd.run_app_by {P : Program} {α : Type} {K : Knd P α} {w : World} {base : Nat} {v : Value} {l : List α} (hown : K.Own w base v l) (vy : Value) (ks : List α) (hks : K.Rd w vy ks)
    (hl : l.length + ks.length ≤ 4000000) (hbase : base ≤ w.heap.size) (ty : TypeId) :
    ∃ v' w', (Builtin.append_ #[K.S, K.S] ty #[v, vy]).run P w = .ok v' w' ∧ K.Own w' base v' (l ++ ks) ∧ Below base w w' ∧ w.grownBy w' v.ownBlock := by
  obtain ⟨i0, hi, hz0, hz1, hz2⟩ := info_parts K.info
  obtain ⟨a, c, rfl, h1, h2, h3⟩ := hks
  cases a with
  | none =>
    have hk0 : ks = [] := by
      rcases h3 with h3 | ⟨g, off, ha, _⟩
      · exact h3
      · cases ha
    subst hk0
    have hc0 := h2 rfl
    subst hc0
    exact ⟨v, w, run_append_owned_none (P := P) (w := w) base K.S ty K.T i0 K.k K.und hi v l.length (K.row l) hown, by simpa using hown, Below.refl _ _, ⟨rfl, rfl, rfl, Nat.le_refl _, fun _ _ _ => rfl⟩⟩
  | some ad =>
    have hnews : ∀ j u, (K.row ks)[j]? = some u → w.cell? (ad.add j) = some u := by
      intro j u hj
      rcases h3 with h3 | ⟨g, off, ha, hg, hc⟩
      · subst h3; simp [Knd.row] at hj
      · simp only [Option.some.injEq] at ha
        subst ha
        have := hc j u hj
        by_cases h0 : j = 0
        · subst h0; simpa [Addr.add] using this
        · simpa [Addr.add, h0] using this
    have hs := K.small
    have hB : (l.length + ks.length) * K.B ≤ 140737488355328 := by
      have h2 : (l.length + ks.length) * K.B ≤ 4000000 * 100000 := Nat.mul_le_mul hl hs
      omega
    obtain ⟨v', w', hr, q1, q2, q3⟩ := run_append_own (P := P) w base K.S ty K.T i0 K.z K.k K.B K.und hi hz0 hz1 hz2 K.zc K.pos v l.length (K.row l) hown ad ks.length c (K.row ks) (K.row_len ks) hnews (K.row_one ks) (by unfold maxLen; omega) hB hbase
    refine ⟨v', w', hr, ?_, (Below.refl base w).grown q2 hbase hown.from, q2⟩
    unfold Knd.Own
    rw [List.length_append, K.row_app]
    exact q1
section
variable {P : Program} {α : Type} {ops : Array Oper} {rest : List Oper} {o : Oper} {a : Act} {w : World} {Q : Exit → Act → World → Prop}
/-- 'append(l, x...)', in a step of its own. -/
theorem Knd.app_by (K : Knd P α) (hw : Region.wanted o (yielded ops a.tmps) = true) (s x : Operand) (ho : o.op = .call { callee := .builtin .append, args := #[s, x], argTypes := #[K.S, K.S] })
    (base : Nat) (v : Value) (l : List α) (hs : a.eval s = v) (hown : K.Own w base v l) (vy : Value) (ks : List α) (hx : a.eval x = vy) (hks : K.Rd w vy ks)
    (hl : l.length + ks.length ≤ 4000000) (hbase : base ≤ w.heap.size)
    (h : ∀ v' w', K.Own w' base v' (l ++ ks) → Below base w w' → w.grownBy w' v.ownBlock → wpList P ops Q rest (a.put o.dst v') w') : wpList P ops Q (o :: rest) a w := by
  obtain ⟨v', w', hr, q1, q2, q3⟩ := K.run_app_by hown vy ks hks hl hbase o.type
  refine wpList_value hw _ w' ?_ (h v' w' q1 q2 q3)
  unfold execOp
  simp only [ho, resolve, invoke, builtin, Sem.run_bind, Sem.run_pure, Result.andThen_ok, List.map_toArray, List.map_cons, List.map_nil, hs, hx, hr]
end
/-- Nodes that came in, with what was read of them: as many as they are. -/
theorem nrowU_of_arg {H : Type} {enc : TypeId × Value → H} {w : World} {r : Reach} {b0 base : Nat} {spare : Nat → Bool} {held : Bool} {v : Value} {d : DataW H} {p : List MemPlace}
    (hv : Value.okWide Try.prog w r b0 22 v) (h : DataW.Trod enc Try.prog w base spare held 22 v d p) :
    ∃ nv, NRow w v nv ∧ (∀ n c, v = .slice none n c → c = 0) ∧ (nv.length = 0 ∨ ∃ elems spare, d = .slice elems spare ∧ elems.length = nv.length) := by
  obtain ⟨nv, hn⟩ := nrow_of_arg hv h
  obtain ⟨a, c, e, hl, hel⟩ := hn.el
  obtain ⟨fuel, hf⟩ := h
  subst e
  rcases Go.Deep.open_slice Try.underlying22 hf with ⟨e, hd⟩ | ⟨a', len, cap, m, n, D, Pl, e, _, _, _, _, hd, _⟩
  · simp [Value.cells] at e
    obtain ⟨rfl, e2, rfl⟩ := e
    exact ⟨nv, hn, fun n c q => by simp at q; exact q.2.symm, .inl (by rw [e2]; rfl)⟩
  · simp [Value.cells] at e
    obtain ⟨rfl, e2, rfl⟩ := e
    simp only [Prod.mk.injEq] at hd
    exact ⟨nv, hn, fun n c q => by simp at q, .inr ⟨_, _, hd.1, by simp [← e2]⟩⟩
end Go.Proofs.Ytlckjpjcfalfnaa
namespace Go.Proofs.Ytlckjpjcfalfnaa
open Go.RowKit Go.Sort
open Go.WideMaps
set_option linter.unusedSimpArgs false
set_option linter.unusedVariables false
set_option maxRecDepth 100000

/-- Rows of the document's nodes. -/
noncomputable def NK2 : Knd Try.prog (Cls 5) := rawK Try.prog 52 28 5 56 (.agg (ndE nd0 (.slice none 0 0)).toArray) Try.underlying28 (by kernel_rfl) rfl (by omega) (by omega) clsN
theorem nrow_rd2 {W : World} {v : Value} {nv : List NV} (h : NK2.Rd W v (nv.map nvC)) (ho : ∀ n ∈ nv, n.Ok W) : NRow W v nv := by
  obtain ⟨a, c, e⟩ := h.slice
  rw [List.length_map] at e
  have hl := h.len
  rw [List.length_map] at hl
  refine ⟨⟨a, c, e, hl, fun j hj => ?_⟩, ho⟩
  subst e
  obtain ⟨-, g, off, ha, hg, hc⟩ := h.at (by intro e; have := congrArg List.length e; simp at this; subst this; simp at hj)
  refine ⟨g, off, ha, hg, fun i u hu => ?_⟩
  have e5 : (nv.map nvC).getD j NK2.d = nvC nv[j] := by simp [List.getD, hj]
  have q := hc j hj i u (by rw [e5]; exact hu)
  have eK : NK2.k = 5 := rfl
  rwa [eK] at q
/-- What holds of a node's cells. -/
theorem NRow.cells {W w : World} {a : Option Addr} {n c : Nat} {nv : List NV} (h : NRow W (.slice a n c) nv) (hb : Below W.heap.size W w) (j : Nat) (hj : j < n) : ∃ (x : NV) (g off : Nat), nv[j]? = some x ∧ a = some ⟨g, off, none⟩ ∧ g < W.heap.size ∧
    w.cell? ⟨g, off + j * 5, none⟩ = some (.int .i64 x.d.id.1) ∧ w.cell? ⟨g, off + j * 5 + 1, none⟩ = some (.int .i64 x.d.id.2.1) ∧ w.cell? ⟨g, off + j * 5 + 2, none⟩ = some (.int .i64 x.d.id.2.2) ∧ w.cell? ⟨g, off + j * 5 + 3, none⟩ = some (.int .i64 x.d.sq) ∧ w.cell? ⟨g, off + j * 5 + 4, none⟩ = some (.slice x.a x.d.dl.length x.c) ∧ x.Ok W := by
  obtain ⟨a', c', e, _, hel⟩ := h.el
  simp only [Value.slice.injEq] at e
  obtain ⟨rfl, rfl, rfl⟩ := e
  obtain ⟨g, off, e1, e2, e3⟩ := hel j hj
  have k : ∀ i u, (ndC nv[j])[i]? = some u → w.cell? ⟨g, off + j * 5 + i, none⟩ = some u := fun i u hu => (hb.cell (p := ⟨g, off + j * 5 + i, none⟩) e2).trans (e3 i u hu)
  exact ⟨nv[j], g, off, List.getElem?_eq_getElem hj, e1, e2, k 0 _ rfl, k 1 _ rfl, k 2 _ rfl, k 3 _ rfl, k 4 _ rfl, h.ok _ (List.getElem_mem hj)⟩
theorem Knd.rd_boxE {P : Program} {α : Type} {K : Knd P α} (x : α) (T : TypeId) (c : Nat) (w : World) (g : Nat) (hg : w.heap.size = g) {cs : List Value} (he : K.enc x = cs) : K.Rd (w.alloc (.cells cs.toArray T)) (.slice (some ⟨g, 0, none⟩) 1 c) [x] := by
  subst hg
  subst he
  exact K.rd_box x T c w
theorem NRow.len' {W : World} {a : Option Addr} {n c : Nat} {nv : List NV} (h : NRow W (.slice a n c) nv) : nv.length = n := by
  obtain ⟨a', c', e, _, hel⟩ := h.el
  simp only [Value.slice.injEq] at e
  exact e.2.1.symm
theorem take_snoc {α : Type} {l : List α} {k : Nat} {x : α} (h : l[k]? = some x) : l.take (k + 1) = l.take k ++ [x] := by
  obtain ⟨hk, e⟩ := List.getElem?_eq_some_iff.1 h
  rw [List.take_succ_eq_append_getElem hk, e]
def OfP (nv : List NV) (w : World) (e : Ending) (w' : World) : Prop := ∃ v, Hid (e = .returned v) ∧ NRow w' v nv ∧ Below w.heap.size w w'
set_option maxHeartbeats 4000000 in
theorem of_any {w : World} {v : Value} {nv : List NV} (h : NRow w v nv) (hl : nv.length ≤ 1000) : Calls Try.prog 12 #[v] w (OfP nv w) := by
  obtain ⟨a, c, hv, -, -⟩ := h.el
  subst hv
  have HR := Lib.hid h
  have HOk := Lib.hid h.ok
  obtain ⟨N, hN⟩ : ∃ N, nv.length = N := ⟨_, rfl⟩
  have HN := Lib.hid hN
  rw [hN] at HR hl ⊢
  clear h hN
  go_enter Try.func12, Try.ntmps12
  go_wp2_with fail
  go_loopw [3, 4] (fun o i wr => ∃ (k : Nat) (vo : Value), k ≤ N ∧ vo = o ∧ i = .int .i64 k ∧ Hid (NK2.Own wr w.heap.size vo ((nv.take k).map nvC)) ∧ Hid (Below w.heap.size w wr)) (fun _ i _ => N - (intOf i).toNat)
  case atStart => exact ⟨0, _, Nat.zero_le _, rfl, rfl, Lib.hid (Knd.Own.nil _ _), Lib.hid (Below.refl _ _)⟩
  case round =>
    obtain ⟨k, vo, hk, rfl, rfl, hO, hB⟩ := hrel
    by_cases hlt : k < N
    · have hk1 : (k : Int) < (N : Int) := by omega
      have hk2 : decide ((k : Int) < (N : Int)) = true := decide_eq_true hk1
      have hk3 : decide (k < N) = true := decide_eq_true hlt
      obtain ⟨x, g, off, hx, ha, hg, d0, d1, d2, d3, d4, hok⟩ := HR.out.cells hB.out k hlt
      subst ha
      have HT : Hid ((nv.take (k + 1)).map nvC = (nv.take k).map nvC ++ [nvC x]) := Lib.hid (by rw [take_snoc hx, List.map_append]; rfl)
      have HL : Hid (((nv.take k).map nvC).length + 1 ≤ 1000000) := Lib.hid (by rw [List.length_map]; have := List.length_take_le k nv; omega)
      have e0 : nvC x = nvC ⟨⟨(x.d.id.1, x.d.id.2.1, x.d.id.2.2), x.d.sq, x.d.dl⟩, x.a, x.c⟩ := rfl
      obtain ⟨D, hD⟩ : ∃ D, x.d.dl.length = D := ⟨_, rfl⟩
      obtain ⟨cx, hcx⟩ : ∃ q, nvC x = q := ⟨_, rfl⟩
      have HE : Hid (NK2.enc cx = [.int .i64 x.d.id.1, .int .i64 x.d.id.2.1, .int .i64 x.d.id.2.2, .int .i64 x.d.sq, .slice x.a D x.c]) := Lib.hid (by rw [← hcx, ← hD]; rfl)
      rw [hcx] at HT
      rw [hD] at d4
      obtain ⟨i1, h1⟩ : ∃ q, x.d.id.1 = q := ⟨_, rfl⟩
      obtain ⟨i2, h2⟩ : ∃ q, x.d.id.2.1 = q := ⟨_, rfl⟩
      obtain ⟨i3, h3⟩ : ∃ q, x.d.id.2.2 = q := ⟨_, rfl⟩
      obtain ⟨sq, h4⟩ : ∃ q, x.d.sq = q := ⟨_, rfl⟩
      obtain ⟨xa, h5⟩ : ∃ q, x.a = q := ⟨_, rfl⟩
      obtain ⟨xc, h6⟩ : ∃ q, x.c = q := ⟨_, rfl⟩
      rw [h1] at d0 HE
      rw [h2] at d1 HE
      rw [h3] at d2 HE
      rw [h4] at d3 HE
      rw [h5, h6] at d4 HE
      obtain ⟨S, hS⟩ : ∃ q, (nv.take k).map nvC = q := ⟨_, rfl⟩
      have hO1 := hO.out
      rw [hS] at HT HL hO1
      have HO1 := Lib.hid hO1
      clear hO hO1 hS hx hok e0 hD hcx h1 h2 h3 h4 h5 h6 hg
      go_wp2_with fail
      go_region_law (refine NK2.step_app2 rfl (.tmp 11) (.tmp 23) rfl w.heap.size vo S rfl (HO1.out.below ((Below.refl _ _).drew.alloc (by simp) _)) _ 1 cx rfl (Knd.rd_boxE cx _ 1 _ _ (by simp) HE.out) HL.out (by have := hB.out.size; simp; omega) ?_
                     intro v2 w2 ho hb _ _
                     have HO2 : Hid (NK2.Own w2 w.heap.size v2 ((nv.take (k + 1)).map nvC)) := Lib.hid (by rw [HT.out]; exact ho)
                     have HB2 : Hid (Below w.heap.size w w2) := Lib.hid ((hB.out.drew.alloc (by have := hB.out.size; simp; omega) _).trans hb)
                     clear ho hb)
      all_goals
        clear HO1 hB d0 d1 d2 d3 d4
        go_wp2_with fail
        go_roundw
        case rel => exact ⟨k + 1, v2, by omega, rfl, by go_num, HO2, HB2⟩
        case measure => simp [intOf]; omega
    · obtain rfl : k = N := by omega
      have hk2 : decide ((k : Int) < (k : Int)) = false := decide_eq_false (by omega)
      have hk3 : decide (k < k) = false := decide_eq_false (by omega)
      have HO2 : Hid (NRow wr vo nv) := Lib.hid (by
        have q := hO.out.rd
        rw [List.take_of_length_le (by rw [HN.out]; exact Nat.le_refl _)] at q
        exact nrow_rd2 q (fun n hn => (HOk.out n hn).below hB.out))
      clear hO
      go_wp2
      go_ret
      exact ⟨_, Lib.hid rfl, HO2.out, hB.out⟩
end Go.Proofs.Ytlckjpjcfalfnaa
namespace Go.Proofs.Ytlckjpjcfalfnaa
open Go.RowKit Go.Sort
open Go.WideMaps
set_option linter.unusedSimpArgs false
set_option linter.unusedVariables false
set_option maxRecDepth 100000

/-- The instances of nodes. -/
abbrev idsN (nv : List NV) : List I3 := nv.map (·.d.id)
theorem idsN_at {nv : List NV} {k : Nat} {x : NV} (h : nv[k]? = some x) : (idsN nv)[k]? = some x.d.id := by unfold idsN; rw [List.getElem?_map, h]; rfl
theorem nodup_iffN {l : List I3} : l.Nodup ↔ ∀ a b, a < b → b < l.length → l[a]? ≠ l[b]? := by
  rw [List.Nodup, List.pairwise_iff_getElem]
  constructor
  · intro h a b hab hb e
    have ha : a < l.length := by omega
    rw [List.getElem?_eq_getElem ha, List.getElem?_eq_getElem hb] at e
    exact h a b ha hb hab (Option.some.inj e)
  · intro h a b ha hb hab e
    exact h a b hab hb (by rw [List.getElem?_eq_getElem ha, List.getElem?_eq_getElem hb, e])
set_option maxHeartbeats 4000000 in
theorem rvalidN_any {w : World} {v : Value} {nv : List NV} (h : NRow w v nv) (hl : nv.length ≤ 1000) : Calls Try.prog 14 #[v] w fun e w' => e = .returned (.bool (decide (nv.length ≤ 1024 ∧ (nv.map (·.d.id)).Nodup))) ∧ Below w.heap.size w w' := by
  obtain ⟨a, c, hv, -, -⟩ := h.el
  subst hv
  have HR := Lib.hid h
  obtain ⟨N, hN⟩ : ∃ N, nv.length = N := ⟨_, rfl⟩
  obtain ⟨B, hB⟩ : ∃ B, decide (nv.length ≤ 1024 ∧ (nv.map (·.d.id)).Nodup) = B := ⟨_, rfl⟩
  have HGood : Hid ((∀ a b, a < b → b < N → (idsN nv)[a]? ≠ (idsN nv)[b]?) → B = true) := Lib.hid fun q => by
    rw [← hB]
    exact decide_eq_true ⟨by omega, nodup_iffN.2 (fun a b hab hb => q a b hab (by simpa [hN] using hb))⟩
  have HBad : Hid (∀ a b, a < b → b < N → (idsN nv)[a]? = (idsN nv)[b]? → B = false) := Lib.hid fun a b hab hb e => by
    rw [← hB]
    exact decide_eq_false fun q => nodup_iffN.1 q.2 a b hab (by simpa [hN] using hb) e
  rw [hB]
  rw [hN] at HR hl ⊢
  clear h hN hB
  go_enter Try.func14, Try.ntmps14
  go_wp2_with fail
  go_loopw [3] (fun i wr => ∃ k : Nat, k ≤ N ∧ i = .int .i64 k ∧ Hid (Below w.heap.size w wr) ∧ Hid (∀ a b, a < b → b < k → (idsN nv)[a]? ≠ (idsN nv)[b]?)) (fun i _ => N - (intOf i).toNat)
  case atStart => exact ⟨0, Nat.zero_le _, rfl, Lib.hid (Below.refl _ _), Lib.hid (fun a b _ hb => absurd hb (Nat.not_lt_zero _))⟩
  case round =>
    obtain ⟨k, hk, rfl, hB, hF⟩ := hrel
    by_cases hlt : k < N
    · have kN1 : (k : Int) < (N : Int) := by omega
      have kN2 : decide ((k : Int) < (N : Int)) = true := decide_eq_true kN1
      have kN3 : decide (k < N) = true := decide_eq_true (by omega)
      obtain ⟨x, g, off, hx, ha, hg, d0, d1, d2, -, -, -⟩ := HR.out.cells (Below.refl _ _) k hlt
      have HX := Lib.hid (idsN_at hx)
      have HC : Hid (∀ wq, Below w.heap.size w wq → wq.cell? ⟨g, off + k * 5, none⟩ = some (.int .i64 x.d.id.1) ∧ wq.cell? ⟨g, off + k * 5 + 1, none⟩ = some (.int .i64 x.d.id.2.1) ∧ wq.cell? ⟨g, off + k * 5 + 2, none⟩ = some (.int .i64 x.d.id.2.2)) := Lib.hid fun wq hq => ⟨(hq.cell (p := ⟨g, off + k * 5, none⟩) hg).trans d0, (hq.cell (p := ⟨g, off + k * 5 + 1, none⟩) hg).trans d1, (hq.cell (p := ⟨g, off + k * 5 + 2, none⟩) hg).trans d2⟩
      obtain ⟨⟨i1, i2, i3⟩, hi⟩ : ∃ q, x.d.id = q := ⟨_, rfl⟩
      rw [hi] at HC HX
      have HA := Lib.hid ha
      clear hx ha hg d0 d1 d2 hi
      go_wp2_with fail
      go_loopw [4] (fun j wr => ∃ m : Nat, m ≤ k ∧ j = .int .i64 m ∧ Hid (Below w.heap.size w wr) ∧ Hid (∀ a, a < m → (idsN nv)[a]? ≠ (idsN nv)[k]?)) (fun j _ => k - (intOf j).toNat)
      case atStart => exact ⟨0, Nat.zero_le _, rfl, hB, Lib.hid (fun a ha => absurd ha (Nat.not_lt_zero _))⟩
      case round =>
        clear hB
        obtain ⟨m, hm, rfl, hB, hG⟩ := hrel
        by_cases hmk : m < k
        · have mk1 : (m : Int) < (k : Int) := by omega
          have mk2 : decide ((m : Int) < (k : Int)) = true := decide_eq_true mk1
          have mk3 : decide (m < k) = true := decide_eq_true (by omega)
          have mN1 : (m : Int) < (N : Int) := by omega
          have mN2 : decide ((m : Int) < (N : Int)) = true := decide_eq_true mN1
          have mN3 : decide (m < N) = true := decide_eq_true (by omega)
          obtain ⟨y, g2, off2, hy, ha2, -, e0, e1, e2, -, -, -⟩ := HR.out.cells hB.out m (by omega)
          have HY := Lib.hid (idsN_at hy)
          obtain ⟨d0, d1, d2⟩ := HC.out _ hB.out
          obtain ⟨⟨j1, j2, j3⟩, hj⟩ : ∃ q, y.d.id = q := ⟨_, rfl⟩
          rw [hj] at e0 e1 e2 HY
          have ha1 := HA.out
          subst ha1
          simp only [Option.some.injEq, Addr.mk.injEq, and_true] at ha2
          obtain ⟨hg2, ho2⟩ := ha2
          subst hg2
          subst ho2
          obtain ⟨he, hgd⟩ := eqI_run i1 i2 i3 j1 j2 j3
          have HKN := Lib.hid hlt
          clear hy hj
          cases hb : decide (((i1, i2, i3) : I3) = (j1, j2, j3)) with
          | true =>
            rw [hb] at he
            have hBf := HBad.out m k hmk hlt (by rw [HX.out, HY.out, of_decide_eq_true hb])
            subst hBf
            clear hb HGood HBad HA HC
            go_wp2_with fail
            go_quiet (fail)
            go_wp2
            go_ret
            exact ⟨rfl, below_drewN_q hB.out _⟩
          | false =>
            rw [hb] at he
            have HG2 : Hid (∀ a, a < m + 1 → (idsN nv)[a]? ≠ (idsN nv)[k]?) := Lib.hid fun a ha => by
              by_cases e : a = m
              · subst e
                rw [HX.out, HY.out]
                intro q
                exact of_decide_eq_false hb (Option.some.inj q).symm
              · exact hG.out a (by omega)
            clear hb hG
            go_wp2_with fail
            go_quiet (fail)
            go_wp2
            go_roundw
            case rel => exact ⟨m + 1, by omega, by go_num, Lib.hid (below_drewN_q hB.out _), HG2⟩
            case measure => simp [intOf]; omega
        · obtain rfl : m = k := by omega
          have mm1 : ¬ (m : Int) < (m : Int) := by omega
          have mm2 : decide ((m : Int) < (m : Int)) = false := decide_eq_false mm1
          have mm3 : decide (m < m) = false := decide_eq_false (by omega)
          have HF2 : Hid (∀ a b, a < b → b < m + 1 → (idsN nv)[a]? ≠ (idsN nv)[b]?) := Lib.hid fun a b hab hb => by
            by_cases e : b = m
            · subst e; exact hG.out a hab
            · exact hF.out a b hab (by omega)
          clear hG hF HC HA
          go_wp2_with fail
          go_roundw
          case rel => exact ⟨m + 1, by omega, by go_num, hB, HF2⟩
          case measure => simp [intOf]; omega
    · obtain rfl : k = N := by omega
      have kk1 : ¬ (k : Int) < (k : Int) := by omega
      have kk2 : decide ((k : Int) < (k : Int)) = false := decide_eq_false kk1
      have kk3 : decide (k < k) = false := decide_eq_false (by omega)
      have hBt := HGood.out hF.out
      subst hBt
      have c1 : (k : Int) ≤ 1024 := by omega
      have c2 : decide ((k : Int) ≤ 1024) = true := decide_eq_true c1
      have c3 : decide (k ≤ 1024) = true := decide_eq_true (by omega)
      clear HGood HBad hF
      go_wp2
      go_ret
      exact ⟨rfl, hB.out⟩
/-- Where an instance is found. -/
def FndIs (nv : List NV) (x : I3) (k : Int) : Prop := (k = -1 ∧ x ∉ idsN nv) ∨ ∃ j : Nat, j < nv.length ∧ k = j ∧ (idsN nv)[j]? = some x
set_option maxHeartbeats 4000000 in
theorem rfindN_any {w : World} {v : Value} {nv : List NV} (h : NRow w v nv) (hl : nv.length ≤ 1000) (x1 x2 x3 : Int) : Calls Try.prog 35 #[v, .agg #[.int .i64 x1, .int .i64 x2, .int .i64 x3]] w fun e w' => ∃ k : Int, Hid (e = .returned (.int .i64 k)) ∧ Hid (FndIs nv (x1, x2, x3) k) ∧ Below w.heap.size w w' := by
  obtain ⟨a, c, hv, -, -⟩ := h.el
  subst hv
  have HR := Lib.hid h
  obtain ⟨N, hN⟩ : ∃ N, nv.length = N := ⟨_, rfl⟩
  have HN := Lib.hid hN
  rw [hN] at HR hl ⊢
  have hbx : Below w.heap.size w (w.alloc (.cells #[.int .i64 x1, .int .i64 x2, .int .i64 x3] 25)) := (Below.refl _ _).alloc (Nat.le_refl _) _
  have hxc : ∀ j, (w.alloc (.cells #[.int .i64 x1, .int .i64 x2, .int .i64 x3] 25)).cell? ⟨w.heap.size, j, none⟩ = _ := fun j => new_cell w _ 25 j
  have HXC := Lib.hid hxc
  have HBX := Lib.hid hbx
  clear h hN hbx hxc
  go_enter Try.func35, Try.ntmps35
  go_wp2_with fail
  obtain ⟨W0, hW0⟩ : ∃ W0, w.alloc (.cells #[.int .i64 x1, .int .i64 x2, .int .i64 x3] 25) = W0 := ⟨_, rfl⟩
  rw [hW0] at HXC HBX ⊢
  have HZ0 : Hid (W0.heap.size = w.heap.size + 1) := Lib.hid (by rw [← hW0]; simp)
  clear hW0
  go_loopw [5] (fun i wr => ∃ k : Nat, k ≤ N ∧ i = .int .i64 k ∧ Hid (Below W0.heap.size W0 wr) ∧ Hid (∀ j, j < k → (idsN nv)[j]? ≠ some (x1, x2, x3))) (fun i _ => N - (intOf i).toNat)
  case atStart => exact ⟨0, Nat.zero_le _, rfl, Lib.hid (Below.refl _ _), Lib.hid (fun j hj => absurd hj (Nat.not_lt_zero _))⟩
  case round =>
    obtain ⟨k, hk, rfl, hB, hF⟩ := hrel
    have hBw : Below w.heap.size w wr := HBX.out.trans (hB.out.mono (by rw [HZ0.out]; omega))
    have HBW := Lib.hid hBw
    by_cases hlt : k < N
    · have kN1 : (k : Int) < (N : Int) := by omega
      have kN2 : decide ((k : Int) < (N : Int)) = true := decide_eq_true kN1
      have kN3 : decide (k < N) = true := decide_eq_true (by omega)
      obtain ⟨y, g, off, hy, ha, hg, d0, d1, d2, -, -, -⟩ := HR.out.cells HBW.out k hlt
      have HY := Lib.hid (idsN_at hy)
      obtain ⟨⟨y1, y2, y3⟩, hj⟩ : ∃ q, y.d.id = q := ⟨_, rfl⟩
      rw [hj] at d0 d1 d2 HY
      subst ha
      have hzr : w.heap.size < W0.heap.size := by rw [HZ0.out]; omega
      have p1 : wr.cell? ⟨w.heap.size, 0, none⟩ = some (.int .i64 x1) := (hB.out.cell (p := ⟨w.heap.size, 0, none⟩) hzr).trans (HXC.out 0)
      have p2 : wr.cell? ⟨w.heap.size, 1, none⟩ = some (.int .i64 x2) := (hB.out.cell (p := ⟨w.heap.size, 1, none⟩) hzr).trans (HXC.out 1)
      have p3 : wr.cell? ⟨w.heap.size, 2, none⟩ = some (.int .i64 x3) := (hB.out.cell (p := ⟨w.heap.size, 2, none⟩) hzr).trans (HXC.out 2)
      obtain ⟨he, hgd⟩ := eqI_run y1 y2 y3 x1 x2 x3
      clear hy hj hg hzr hBw
      cases hb : decide (((y1, y2, y3) : I3) = (x1, x2, x3)) with
      | true =>
        rw [hb] at he
        have HE := Lib.hid (of_decide_eq_true hb)
        clear hb
        go_wp2_with fail
        go_quiet (fail)
        go_wp2
        go_ret
        exact ⟨_, Lib.hid rfl, Lib.hid (.inr ⟨k, by rw [HN.out]; exact hlt, rfl, by rw [HY.out, HE.out]⟩), below_drewN_q HBW.out _⟩
      | false =>
        rw [hb] at he
        have HF2 : Hid (∀ j, j < k + 1 → (idsN nv)[j]? ≠ some (x1, x2, x3)) := Lib.hid fun j hj => by
          by_cases e : j = k
          · subst e; rw [HY.out]; exact fun q => of_decide_eq_false hb (Option.some.inj q)
          · exact hF.out j (by omega)
        clear hb hF
        go_wp2_with fail
        go_quiet (fail)
        go_wp2
        go_roundw
        case rel => exact ⟨k + 1, by omega, by go_num, Lib.hid (below_drewN_q hB.out _), HF2⟩
        case measure => simp [intOf]; omega
    · obtain rfl : k = N := by omega
      have kk1 : ¬ (k : Int) < (k : Int) := by omega
      have kk2 : decide ((k : Int) < (k : Int)) = false := decide_eq_false kk1
      have kk3 : decide (k < k) = false := decide_eq_false (by omega)
      clear hBw
      go_wp2
      go_ret
      exact ⟨_, Lib.hid rfl, Lib.hid (.inl ⟨rfl, fun hm => by
        obtain ⟨j, hj⟩ := List.mem_iff_getElem?.1 hm
        have hjl : j < k := by have := (List.getElem?_eq_some_iff.1 hj).1; simpa [HN.out] using this
        exact hF.out j hjl hj⟩), HBW.out⟩
end Go.Proofs.Ytlckjpjcfalfnaa
namespace Go.Proofs.Ytlckjpjcfalfnaa
open Go.RowKit Go.Sort
open Go.WideMaps
set_option linter.unusedSimpArgs false
set_option linter.unusedVariables false
set_option maxRecDepth 100000

/-- One step, not on from what is done. -/
def cutS (web : List (I3 × NV)) (dn : List I3) (a x : I3) : List I3 := if x ∈ dn ∧ x ≠ a then [] else stepsV web x
theorem cutS_in {web : List (I3 × NV)} {dn : List I3} {a x y : I3} (h : y ∈ cutS web dn a x) : y ∈ stepsV web x := by
  unfold cutS at h
  split at h
  · cases h
  · exact h
/-- What was found, and gone through up to the k-th. -/
structure LI (f : I3 → List I3) (a : I3) (M : List I3) (k : Nat) : Prop where
  nd : M.Nodup
  rch : ∀ y ∈ M, Rch f a y
  fst : ∀ y ∈ f a, y ∈ M
  old : ∀ (i : Nat) (z : I3), i < k → M[i]? = some z → ∀ y ∈ f z, y ∈ M
  le : k ≤ M.length
theorem LI.all {f : I3 → List I3} {a : I3} {M : List I3} (h : LI f a M M.length) (x : I3) : x ∈ M ↔ Rch f a x := by
  refine ⟨h.rch x, fun q => ?_⟩
  induction q with
  | one r => exact h.fst _ r
  | more r1 r2 ih =>
    obtain ⟨i, hi⟩ := List.mem_iff_getElem?.1 ih
    exact h.old i _ (List.getElem?_eq_some_iff.1 hi).1 hi _ r2
theorem LI.few {f : I3 → List I3} {a : I3} {M : List I3} {k : Nat} (h : LI f a M k) {U : List I3} (hU : ∀ x, ∀ y ∈ f x, y ∈ U) : M.length ≤ U.length :=
  len_sub h.nd fun y hy => by
    have := h.rch y hy
    cases this with
    | one q => exact hU _ _ q
    | more _ q => exact hU _ _ q
theorem LI.skip {f : I3 → List I3} {a x : I3} {M : List I3} {k : Nat} (h : LI f a M k) (hx : M[k]? = some x) (hf : ∀ y ∈ f x, y ∈ M) : LI f a M (k + 1) := by
  refine ⟨h.nd, h.rch, h.fst, fun i z hi hz => ?_, (List.getElem?_eq_some_iff.1 hx).1⟩
  by_cases e : i = k
  · subst e
    rw [hx] at hz
    obtain rfl := Option.some.inj hz
    exact hf
  · exact h.old i z (by omega) hz
/-- .. and of the k-th up to the j-th step. -/
structure LJ (f : I3 → List I3) (a x : I3) (M : List I3) (k j : Nat) : Prop where
  li : LI f a M k
  at' : M[k]? = some x
  in' : ∀ (i : Nat) (y : I3), i < j → (f x)[i]? = some y → y ∈ M
theorem LJ.start {f : I3 → List I3} {a x : I3} {M : List I3} {k : Nat} (h : LI f a M k) (hx : M[k]? = some x) : LJ f a x M k 0 := ⟨h, hx, fun i y hi => absurd hi (Nat.not_lt_zero _)⟩
theorem LJ.old {f : I3 → List I3} {a x y : I3} {M : List I3} {k j : Nat} (h : LJ f a x M k j) (hy : (f x)[j]? = some y) (hm : y ∈ M) : LJ f a x M k (j + 1) :=
  ⟨h.li, h.at', fun i z hi hz => by
    by_cases e : i = j
    · subst e
      rw [hy] at hz
      obtain rfl := Option.some.inj hz
      exact hm
    · exact h.in' i z (by omega) hz⟩
theorem LJ.new {f : I3 → List I3} {a x y : I3} {M : List I3} {k j : Nat} (h : LJ f a x M k j) (hy : (f x)[j]? = some y) (hm : y ∉ M) : LJ f a x (M ++ [y]) k (j + 1) := by
  have hk : k < M.length := (List.getElem?_eq_some_iff.1 h.at').1
  have hxM : x ∈ M := List.mem_iff_getElem?.2 ⟨k, h.at'⟩
  refine ⟨⟨?_, fun z hz => ?_, fun z hz => List.mem_append_left _ (h.li.fst z hz), fun i z hi hz u hu => ?_, by rw [List.length_append]; have := h.li.le; omega⟩, ?_, fun i z hi hz => ?_⟩
  · rw [List.nodup_append]
    refine ⟨h.li.nd, by simp, fun p hp q hq => ?_⟩
    simp at hq
    subst hq
    rintro rfl
    exact hm hp
  · rcases List.mem_append.1 hz with r | r
    · exact h.li.rch z r
    · simp at r
      subst r
      exact .more (h.li.rch x hxM) (List.mem_iff_getElem?.2 ⟨j, hy⟩)
  · rw [List.getElem?_append_left (by omega)] at hz
    exact List.mem_append_left _ (h.li.old i z hi hz u hu)
  · rw [List.getElem?_append_left hk]; exact h.at'
  · by_cases e : i = j
    · subst e
      rw [hy] at hz
      obtain rfl := Option.some.inj hz
      simp
    · exact List.mem_append_left _ (h.in' i z (by omega) hz)
theorem LJ.done {f : I3 → List I3} {a x : I3} {M : List I3} {k j : Nat} (h : LJ f a x M k j) (hj : j = (f x).length) : LI f a M (k + 1) :=
  h.li.skip h.at' fun y hy => by
    obtain ⟨i, hi⟩ := List.mem_iff_getElem?.1 hy
    exact h.in' i y (by rw [hj]; exact (List.getElem?_eq_some_iff.1 hi).1) hi
theorem steps_none {nv : List NV} {x : I3} (h : x ∉ idsN nv) : stepsV (webL nv) x = [] := by
  unfold stepsV ndOf
  rw [getV_none.2 (fun v q => h ((webL_keys nv x).1 (List.mem_map.2 ⟨_, q, rfl⟩)))]
  rfl
theorem fnd_cases {nv : List NV} {x : I3} {k : Int} (hn : (nv.map (·.d.id)).Nodup) (h : FndIs nv x k) :
    (k = -1 ∧ x ∉ idsN nv ∧ stepsV (webL nv) x = []) ∨ ∃ (j : Nat) (n : NV), j < nv.length ∧ k = (j : Int) ∧ nv[j]? = some n ∧ n.d.id = x ∧ n ∈ nv ∧ stepsV (webL nv) x = n.d.dl := by
  rcases h with ⟨rfl, h⟩ | ⟨j, hj, rfl, e⟩
  · exact .inl ⟨rfl, h, steps_none h⟩
  · right
    have e2 : nv[j]? = some nv[j] := List.getElem?_eq_getElem hj
    have e3 : nv[j].d.id = x := by
      have q := idsN_at e2
      rw [e] at q
      exact (Option.some.inj q).symm
    exact ⟨j, nv[j], hj, rfl, e2, e3, List.getElem_mem hj, by rw [← e3]; exact webL_steps hn (List.getElem_mem hj)⟩
/-- What Lead answers. -/
structure LeadIs (nv : List NV) (dn : List I3) (a : I3) (M : List I3) : Prop where
  nd : M.Nodup
  mem : ∀ x, x ∈ M ↔ Rch (cutS (webL nv) dn a) a x
  few : M.length ≤ 196
def LeadP (nv : List NV) (dn : List I3) (a : I3) (w : World) (e : Ending) (w' : World) : Prop := ∃ M v', Hid (e = .returned v') ∧ Hid (LeadIs nv dn a M) ∧ IK.Own w' w.heap.size v' M ∧ Below w.heap.size w w'
theorem LI.few2 {W : World} {v vd : Value} {nv : List NV} {dn : List I3} (hg : GrIn W v vd nv dn) {a : I3} {M : List I3} {k : Nat} (h : LI (cutS (webL nv) dn a) a M k) : M.length ≤ 196 := by
  have h1 := h.few (U := depsU nv) fun x y hy => by
    have hy := cutS_in hy
    by_cases q : x ∈ idsN nv
    · obtain ⟨n, hn, e⟩ := List.mem_map.1 q
      subst e
      rw [webL_steps hg.one hn] at hy
      exact depsU_mem n hn y hy
    · rw [steps_none q] at hy
      cases hy
  have h2 := depsU_len hg.few.steps
  have h4 : nv.length * 14 ≤ 14 * 14 := Nat.mul_le_mul_right _ hg.few.few
  omega
set_option maxHeartbeats 8000000 in
theorem lead_any {w : World} {v vd : Value} {nv : List NV} {dn : List I3} (h : GrIn w v vd nv dn) (a1 a2 a3 : Int) :
    Calls Try.prog 39 #[v, .agg #[.int .i64 a1, .int .i64 a2, .int .i64 a3], vd] w (LeadP nv dn (a1, a2, a3) w) := by
  obtain ⟨f, hf⟩ : ∃ f, cutS (webL nv) dn (a1, a2, a3) = f := ⟨_, rfl⟩
  have HFind : Hid (∀ x1 x2 x3 W, Below w.heap.size w W → Calls Try.prog 35 #[v, .agg #[.int .i64 x1, .int .i64 x2, .int .i64 x3]] W fun e w' => ∃ k : Int, Hid (e = .returned (.int .i64 k)) ∧ Hid (FndIs nv (x1, x2, x3) k) ∧ Below W.heap.size W w') := Lib.hid fun x1 x2 x3 W hW => rfindN_any (h.row.below hW) (by have := h.few.few; omega) x1 x2 x3
  have HHas : Hid (∀ x1 x2 x3 W, Below w.heap.size w W → Calls Try.prog 33 #[vd, .agg #[.int .i64 x1, .int .i64 x2, .int .i64 x3]] W fun e w' => e = .returned (.bool (hasI dn (x1, x2, x3))) ∧ Below W.heap.size W w') := Lib.hid fun x1 x2 x3 W hW => rhas_any vd dn x1 x2 x3 W (h.don.below hW) (by have := h.few.over; omega)
  obtain ⟨av, cv, hv, -, -⟩ := h.row.el
  obtain ⟨ad, cd, hd⟩ := h.don.slice
  subst hv
  subst hd
  obtain ⟨N, hN⟩ : ∃ N, nv.length = N := ⟨_, rfl⟩
  obtain ⟨Nd, hNd⟩ : ∃ N, dn.length = N := ⟨_, rfl⟩
  have HN := Lib.hid hN
  rw [hN] at h HFind ⊢
  rw [hNd] at h HHas ⊢
  have HG := Lib.hid h
  have HF := Lib.hid hf
  have HLen : Hid (∀ M k, LI f (a1, a2, a3) M k → M.length ≤ 196) := Lib.hid fun M k q => by rw [← hf] at q; exact q.few2 h
  have HEnd : Hid (∀ M, LI f (a1, a2, a3) M M.length → LeadIs nv dn (a1, a2, a3) M) := Lib.hid fun M q => by
    subst hf
    exact ⟨q.nd, q.all, q.few2 h⟩
  have hN14 : N ≤ 14 := by rw [← hN]; exact h.few.few
  clear h hN hNd hf
  go_enter Try.func39, Try.ntmps39
  go_wp2_with fail
  obtain ⟨W0, hW0⟩ : ∃ W0, w.alloc (.cells #[.int .i64 a1, .int .i64 a2, .int .i64 a3] 25) = W0 := ⟨_, rfl⟩
  have HB0 : Hid (Below w.heap.size w W0) := Lib.hid (by rw [← hW0]; exact (Below.refl _ _).alloc (Nat.le_refl _) _)
  try rw [hW0]
  clear hW0
  refine (HFind.out a1 a2 a3 W0 HB0.out).mono ?_
  rintro e w1 ⟨kx, he, hfx, hb⟩
  rw [he.out]
  have HB1 := Lib.hid (HB0.out.trans (hb.mono HB0.out.size))
  have HFx := hfx.out
  clear he hb hfx HB0
  rcases fnd_cases HG.out.one HFx with ⟨rfl, hni, hst⟩ | ⟨j, x, hjN, rfl, hxj, hxi, hxm, hst⟩
  · have HR : Hid (LeadIs nv dn (a1, a2, a3) []) := Lib.hid (HEnd.out [] ⟨List.nodup_nil, (fun y hy => by cases hy), (fun y hy => by rw [← HF.out] at hy; have := cutS_in hy; rw [hst] at this; cases this), (fun i z hi => absurd hi (Nat.not_lt_zero _)), Nat.le_refl _⟩)
    clear hni hst HFx
    go_wp2
    go_ret
    exact ⟨[], _, Lib.hid rfl, HR.out, Knd.Own.nil _ _, HB1.out⟩
  · rw [HN.out] at hjN
    obtain ⟨x', g0, off0, hx', ha, -, -, -, -, -, d4, hok⟩ := HG.out.row.cells HB1.out j hjN
    rw [hxj] at hx'
    obtain rfl := Option.some.inj hx'
    have hfa : f (a1, a2, a3) = x.d.dl := by rw [← HF.out]; unfold cutS; rw [if_neg (by simp)]; exact hst
    have hD14 : x.d.dl.length ≤ 14 := HG.out.few.steps x hxm
    subst ha
    obtain ⟨dl, hdl⟩ : ∃ q, x.d.dl = q := ⟨_, rfl⟩
    obtain ⟨D, hD⟩ : ∃ q, dl.length = q := ⟨_, rfl⟩
    have hrd := hok.2.2
    rw [hdl, hD] at d4 hrd
    rw [hdl] at hfa hD14
    rw [hD] at hD14
    have HRd := Lib.hid hrd
    have HFa := Lib.hid hfa
    have HD := Lib.hid hD
    have jN1 : (j : Int) < (N : Int) := by omega
    have jN2 : decide ((j : Int) < (N : Int)) = true := decide_eq_true jN1
    have jN3 : decide (j < N) = true := decide_eq_true (by omega)
    have j0 : ¬ (j : Int) < 0 := by omega
    have j00 : decide ((j : Int) < 0) = false := decide_eq_false j0
    have HCl := Lib.hid (rclean_any _ _ w1 (HRd.out.below HB1.out) (by omega))
    clear hst hxm hxi hxj hjN hok hdl hD hrd hfa HFx
    go_wp2_with fail
    refine HCl.out.mono ?_
    rintro e w2 ⟨v2, he, ho, hb⟩
    rw [he.out]
    obtain ⟨a2', c2, e2⟩ := ho.slice
    subst e2
    have HL2 : Hid (([] : List I3).length + (clnI dl).length ≤ 1000000) := Lib.hid (by have := len_clnI dl; have := HD.out; simp; omega)
    have HLI : Hid (LI f (a1, a2, a3) (clnI dl) 0) := Lib.hid ⟨(clnI_rises dl).nodup, (fun y hy => .one (by rw [HFa.out]; exact (mem_clnI _ _).1 hy)), (fun y hy => (mem_clnI _ _).2 (by rw [← HFa.out]; exact hy)), (fun i z hi => absurd hi (Nat.not_lt_zero _)), Nat.zero_le _⟩
    obtain ⟨C, hC⟩ : ∃ q, clnI dl = q := ⟨_, rfl⟩
    rw [hC] at ho HL2 HLI ⊢
    obtain ⟨n2, hn2⟩ : ∃ q, C.length = q := ⟨_, rfl⟩
    rw [hn2] at ho ⊢
    have HO2 := Lib.hid ho.rd
    have HB2 := Lib.hid (HB1.out.trans (hb.mono HB1.out.size))
    have HZ2 := Lib.hid HB2.out.size
    have HN2 := Lib.hid hn2
    clear he ho hb hC hn2 HCl HB1 d4
    go_wp2_with (first
      | (refine IK.app (by kernel_rfl) (.tmp 17) (.tmp 24) rfl w.heap.size (.slice none 0 0) [] rfl (Knd.Own.nil _ _) (.slice a2' n2 c2) C rfl HO2.out HL2.out HZ2.out ?_
         intro v3 w3 ho hb hg hn
         rw [List.nil_append] at ho
         obtain ⟨a3', c3, e3⟩ := ho.slice
         rw [HN2.out] at e3
         subst e3
         have HO3 := Lib.hid ho
         have HB3 := Lib.hid (HB2.out.trans hb)
         clear ho hb hg hn HO2 HB2 HZ2)
      | fail)
    clear HRd HFa HL2 jN1 jN2 jN3 j0 j00
    go_loopw [7, 9] (fun t i wr => ∃ (ta : Option Addr) (T tc k : Nat) (M : List I3), t = .slice ta T tc ∧ i = .int .i64 k ∧ k ≤ T ∧ Hid (M.length = T) ∧ Hid (IK.Own wr w.heap.size (.slice ta T tc) M) ∧ Hid (LI f (a1, a2, a3) M k) ∧ Hid (Below w.heap.size w wr)) (fun _ i _ => 200 - (intOf i).toNat)
    case atStart => exact ⟨_, _, _, 0, C, rfl, rfl, Nat.zero_le _, HN2, HO3, HLI, HB3⟩
    case round =>
      clear HN2 HO3 HLI HB3
      obtain ⟨ta, T, tc, k, M, rfl, rfl, hk, HT, HO, HI, HB⟩ := hrel
      have hT196 : T ≤ 196 := by rw [← HT.out]; exact HLen.out _ _ HI.out
      by_cases hlt : k < T
      · have kT1 : (k : Int) < (T : Int) := by omega
        have kT2 : decide ((k : Int) < (T : Int)) = true := decide_eq_true kT1
        have kT3 : decide (k < T) = true := decide_eq_true (by omega)
        obtain ⟨e0, g2, off2, hda, hg2, q1, q2, q3, hjl⟩ := idCell HO.out.rd k hlt
        obtain ⟨⟨y1, y2, y3⟩, hX⟩ : ∃ X, M.getD k (0, 0, 0) = X := ⟨_, rfl⟩
        rw [hX] at q1 q2 q3
        have HX : Hid (M[k]? = some (y1, y2, y3)) := Lib.hid (by rw [← hX]; simp [List.getD, hjl])
        have HCy : Hid (∀ wq, Below wr.heap.size wr wq → wq.cell? ⟨g2, off2 + k * 3, none⟩ = some (.int .i64 y1) ∧ wq.cell? ⟨g2, off2 + k * 3 + 1, none⟩ = some (.int .i64 y2) ∧ wq.cell? ⟨g2, off2 + k * 3 + 2, none⟩ = some (.int .i64 y3)) := Lib.hid fun wq hq => ⟨(hq.cell (p := ⟨g2, off2 + k * 3, none⟩) hg2).trans q1, (hq.cell (p := ⟨g2, off2 + k * 3 + 1, none⟩) hg2).trans q2, (hq.cell (p := ⟨g2, off2 + k * 3 + 2, none⟩) hg2).trans q3⟩
        subst hda
        clear e0 hX hjl hg2
        go_wp2_with fail
        refine (HFind.out y1 y2 y3 wr HB.out).mono ?_
        rintro e w4 ⟨kx, he, hfx, hb⟩
        rw [he.out]
        have HO4 := Lib.hid (HO.out.below hb)
        have HB4 := Lib.hid (HB.out.trans (hb.mono HB.out.size))
        obtain ⟨q1, q2, q3⟩ := HCy.out _ hb
        have HFx := hfx.out
        have HBy := Lib.hid hb
        clear he hb hfx
        rcases fnd_cases HG.out.one HFx with ⟨rfl, hni, hst⟩ | ⟨j, x, hjN, rfl, hxj, hxi, hxm, hst⟩
        · have HI2 : Hid (LI f (a1, a2, a3) M (k + 1)) := Lib.hid (HI.out.skip HX.out (fun y hy => by rw [← HF.out] at hy; have := cutS_in hy; rw [hst] at this; cases this))
          clear hni hst HFx HI HO HB
          go_wp2_with fail
          go_roundw
          case rel => exact ⟨_, T, tc, k + 1, M, rfl, by go_num, by omega, HT, HO4, HI2, HB4⟩
          case measure => simp [intOf]; omega
        · rw [HN.out] at hjN
          obtain ⟨x', g, off, hx', ha, hg, -, -, -, -, d4, hok⟩ := HG.out.row.cells (Below.refl _ _) j hjN
          rw [hxj] at hx'
          obtain rfl := Option.some.inj hx'
          have hD14 : x.d.dl.length ≤ 14 := HG.out.few.steps x hxm
          obtain ⟨rfl, rfl⟩ : g = g0 ∧ off = off0 := by simpa using ha.symm
          clear ha
          obtain ⟨dl, hdl⟩ : ∃ q, x.d.dl = q := ⟨_, rfl⟩
          obtain ⟨D, hD⟩ : ∃ q, dl.length = q := ⟨_, rfl⟩
          have hrd := hok.2.2
          rw [hdl, hD] at d4 hrd
          rw [hdl] at hD14 hst
          rw [hD] at hD14
          have HRd := Lib.hid hrd
          have HD := Lib.hid hD
          have HSt := Lib.hid hst
          have HCx : Hid (∀ wq, Below w.heap.size w wq → wq.cell? ⟨g, off + j * 5 + 4, none⟩ = some (.slice x.a D x.c)) := Lib.hid fun wq hq => (hq.cell (p := ⟨g, off + j * 5 + 4, none⟩) hg).trans d4
          obtain ⟨xa, hxa⟩ : ∃ q, x.a = q := ⟨_, rfl⟩
          obtain ⟨xc, hxc⟩ : ∃ q, x.c = q := ⟨_, rfl⟩
          rw [hxa, hxc] at HCx HRd
          have jN1 : (j : Int) < (N : Int) := by omega
          have jN2 : decide ((j : Int) < (N : Int)) = true := decide_eq_true jN1
          have jN3 : decide (j < N) = true := decide_eq_true (by omega)
          have j0 : ¬ (j : Int) < 0 := by omega
          have j00 : decide ((j : Int) < 0) = false := decide_eq_false j0
          clear hst hxm hxi hxj hjN hok hdl hD hrd HFx hg d4 hxa hxc
          go_wp2_with fail
          refine (HHas.out y1 y2 y3 w4 HB4.out).mono ?_
          rintro e w5 ⟨rfl, hb⟩
          have HO5 := Lib.hid (HO4.out.below hb)
          have HB5 := Lib.hid (HB4.out.trans (hb.mono HB4.out.size))
          clear hb HO HB HO4 HB4 HBy q1 q2 q3
          cases hh : hasI dn (y1, y2, y3) with
          | true =>
            have hm := (hasI_iff _ _).1 hh
            have HI2 : Hid (LI f (a1, a2, a3) M (k + 1)) := Lib.hid (HI.out.skip HX.out (fun y hy => by
              by_cases e : (y1, y2, y3) = (a1, a2, a3)
              · rw [e] at hy; exact HI.out.fst y hy
              · rw [← HF.out] at hy; unfold cutS at hy; rw [if_pos ⟨hm, e⟩] at hy; cases hy))
            clear hm hh HI
            go_wp2_with fail
            go_roundw
            case rel => exact ⟨_, T, tc, k + 1, M, rfl, by go_num, by omega, HT, HO5, HI2, HB5⟩
            case measure => simp [intOf]; omega
          | false =>
            have HFy : Hid (f (y1, y2, y3) = dl) := Lib.hid (by
              rw [← HF.out]
              unfold cutS
              rw [if_neg (fun q => by rw [(hasI_iff _ _).2 q.1] at hh; cases hh)]
              exact HSt.out)
            have HJ : Hid (LJ f (a1, a2, a3) (y1, y2, y3) M k 0) := Lib.hid (.start HI.out HX.out)
            clear hh HI HSt HX HCy
            go_wp2_with fail
            go_loopw [7, 11] (fun t i wr => ∃ (ta : Option Addr) (T tc m : Nat) (M : List I3), t = .slice ta T tc ∧ i = .int .i64 m ∧ m ≤ D ∧ k < T ∧ Hid (M.length = T) ∧ Hid (IK.Own wr w.heap.size (.slice ta T tc) M) ∧ Hid (LJ f (a1, a2, a3) (y1, y2, y3) M k m) ∧ Hid (Below w.heap.size w wr)) (fun _ i _ => D - (intOf i).toNat)
            case atStart => exact ⟨_, T, tc, 0, M, rfl, rfl, Nat.zero_le _, hlt, HT, HO5, HJ, HB5⟩
            case round =>
              clear HT HO5 HJ HB5 hT196 kT1 kT2 kT3
              obtain ⟨ta, T, tc, m, M, rfl, rfl, hm, hkT, HT, HO, HJ, HB⟩ := hrel
              have hT196 : T ≤ 196 := by rw [← HT.out]; exact HLen.out _ _ HJ.out.li
              have d4 := HCx.out _ HB.out
              by_cases hmD : m < D
              · have mD1 : (m : Int) < (D : Int) := by omega
                have mD2 : decide ((m : Int) < (D : Int)) = true := decide_eq_true mD1
                have mD3 : decide (m < D) = true := decide_eq_true (by omega)
                obtain ⟨e0, g3, off3, hda, hg3, q1, q2, q3, hjl⟩ := idCell (HRd.out.below HB.out) m hmD
                obtain ⟨⟨z1, z2, z3⟩, hZ⟩ : ∃ X, dl.getD m (0, 0, 0) = X := ⟨_, rfl⟩
                rw [hZ] at q1 q2 q3
                have HZ : Hid ((f (y1, y2, y3))[m]? = some (z1, z2, z3)) := Lib.hid (by rw [HFy.out, ← hZ]; simp [List.getD, hjl])
                subst hda
                have hh0 := rhas_any (.slice ta T tc) M z1 z2 z3 wr HO.out.rd (by rw [HT.out]; omega)
                obtain ⟨hz, hhz⟩ : ∃ q, hasI M (z1, z2, z3) = q := ⟨_, rfl⟩
                rw [hhz] at hh0
                have HHz := Lib.hid hh0
                have HE := Lib.hid hhz
                clear e0 hZ hjl hh0 hhz
                go_wp2_with fail
                refine HHz.out.mono ?_
                rintro e w6 ⟨rfl, hb⟩
                have HO6 := Lib.hid (HO.out.below hb)
                have HB6 := Lib.hid (HB.out.trans (hb.mono HB.out.size))
                have hg3' := hg3
                have p1 := (hb.cell (p := ⟨g3, off3 + m * 3, none⟩) hg3).trans q1
                have p2 := (hb.cell (p := ⟨g3, off3 + m * 3 + 1, none⟩) hg3).trans q2
                have p3 := (hb.cell (p := ⟨g3, off3 + m * 3 + 2, none⟩) hg3).trans q3
                clear hb HHz HO HB q1 q2 q3 d4 hg3 hg3'
                cases hz with
                | true =>
                  have HJ2 := Lib.hid (HJ.out.old HZ.out ((hasI_iff _ _).1 HE.out))
                  clear HJ HE HZ p1 p2 p3
                  go_wp2_with fail
                  go_roundw
                  case rel => exact ⟨_, T, tc, m + 1, M, rfl, by go_num, by omega, hkT, HT, HO6, HJ2, HB6⟩
                  case measure => simp [intOf]; omega
                | false =>
                  have HJ2 := Lib.hid (HJ.out.new HZ.out (fun q => by have := (hasI_iff _ _).2 q; rw [HE.out] at this; cases this))
                  have HL6 : Hid (M.length + 1 ≤ 1000000) := Lib.hid (by rw [HT.out]; omega)
                  have d4 := HCx.out _ HB6.out
                  have hz6 := HB6.out.size
                  have HT1 : Hid ((M ++ [(z1, z2, z3)]).length = T + 1) := Lib.hid (by rw [List.length_append, HT.out]; rfl)
                  clear HJ HE HZ
                  go_wp2_with (refine IK.app rfl _ _ rfl w.heap.size (.slice ta T tc) M rfl ?own _ [(z1, z2, z3)] rfl ?rd HL6.out ?bs ?_)
                  case own => exact HO6.out.below ((Below.refl _ _).alloc (Nat.le_refl _) _)
                  case rd => exact IK.rd_boxAt (z1, z2, z3) _ 1 _ _ (by simp)
                  case bs => first | omega | (simp; omega) | fail
                  intro v7 w7 ho hb _ _
                  obtain ⟨a7, c7, e7⟩ := ho.slice
                  rw [HT1.out] at e7
                  subst e7
                  have HO7 := Lib.hid ho
                  have HB7 : Hid (Below w.heap.size w w7) := Lib.hid ((HB6.out.alloc hz6 _).trans hb)
                  clear ho hb HO6 HB6 p1 p2 p3 d4 hz6
                  go_wp2
                  go_roundw
                  case rel => exact ⟨a7, T + 1, c7, m + 1, _, rfl, by go_num, by omega, by omega, HT1, HO7, HJ2, HB7⟩
                  case measure => simp [intOf]; omega
              · obtain rfl : m = D := by omega
                have mm1 : ¬ (m : Int) < (m : Int) := by omega
                have mm2 : decide ((m : Int) < (m : Int)) = false := decide_eq_false mm1
                have mm3 : decide (m < m) = false := decide_eq_false (by omega)
                have HI2 := Lib.hid (HJ.out.done (by rw [HFy.out, HD.out]))
                clear HJ
                go_wp2_with fail
                go_roundw
                case rel => exact ⟨_, T, tc, k + 1, M, rfl, by go_num, by omega, HT, HO, HI2, HB⟩
                case measure => simp [intOf]; omega
      · obtain rfl : k = T := by omega
        have kk1 : ¬ (k : Int) < (k : Int) := by omega
        have kk2 : decide ((k : Int) < (k : Int)) = false := decide_eq_false kk1
        have kk3 : decide (k < k) = false := decide_eq_false (by omega)
        have HE := Lib.hid (HEnd.out M (by rw [HT.out]; exact HI.out))
        clear HI
        go_wp2
        go_ret
        exact ⟨M, _, Lib.hid rfl, HE.out, HO.out, HB.out⟩
end Go.Proofs.Ytlckjpjcfalfnaa
namespace Go.Proofs.Ytlckjpjcfalfnaa
open Go.RowKit Go.Sort
open Go.WideMaps
set_option linter.unusedSimpArgs false
set_option linter.unusedVariables false
set_option maxRecDepth 100000

theorem cutS_nil (web : List (I3 × NV)) (a : I3) : cutS web [] a = stepsV web := by
  funext x
  unfold cutS
  rw [if_neg (fun q => by cases q.1)]
/-- One is ready, by the document. -/
def RdyX (nv : List NV) (dn : List I3) (x : I3) : Prop := x ∉ dn ∧ ∀ y, Rch (cutS (webL nv) dn x) x y → y ∈ idsN nv ∨ y ∈ dn
theorem rdy_iff {nv : List NV} {cur : List (I3 × NV)} {dn : List I3} (h : RdyIs (webL nv) cur dn) (x : I3) : x ∈ keysV cur ↔ x ∈ idsN nv ∧ RdyX nv dn x := by
  have hin : ∀ y, y ∈ keysV cur → y ∈ idsN nv ∧ y ∉ dn := fun y hy => by
    obtain ⟨n, hn⟩ := mem_keys.1 hy
    have q := h.sub y n hn
    exact ⟨(webL_keys nv y).1 (mem_keys.2 ⟨n, q.1⟩), q.2⟩
  constructor
  · intro hx
    refine ⟨(hin x hx).1, (hin x hx).2, fun y hy => ?_⟩
    have key : ∀ y, Rch (cutS (webL nv) dn x) x y → y ∈ dn ∨ y ∈ keysV cur := by
      intro y hy
      induction hy with
      | one q => exact h.closed x hx _ (cutS_in q)
      | @more p q r1 r2 ih =>
        rcases ih with ih | ih
        · have hpx : p = x := by
            by_cases e : p = x
            · exact e
            · unfold cutS at r2
              rw [if_pos ⟨ih, e⟩] at r2
              cases r2
          rw [hpx] at ih
          exact absurd ih (hin x hx).2
        · exact h.closed _ ih _ (cutS_in r2)
    rcases key y hy with q | q
    · exact .inr q
    · exact .inl (hin y q).1
  · rintro ⟨hx, hnd, hr⟩
    refine h.great (fun y => y = x ∨ (Rch (cutS (webL nv) dn x) x y ∧ y ∉ dn)) (fun y hy => ?_) x (.inl rfl)
    rcases hy with rfl | ⟨hy, hyd⟩
    · refine ⟨(webL_keys nv y).2 hx, hnd, fun d hd => ?_⟩
      by_cases e : d ∈ dn
      · exact .inl e
      · exact .inr (.inr ⟨.one (by unfold cutS; rw [if_neg (fun q => hnd q.1)]; exact hd), e⟩)
    · refine ⟨(webL_keys nv y).2 ((hr y hy).resolve_right hyd), hyd, fun d hd => ?_⟩
      by_cases e : d ∈ dn
      · exact .inl e
      · exact .inr (.inr ⟨.more hy (by unfold cutS; rw [if_neg (fun q => hyd q.1)]; exact hd), e⟩)
set_option maxHeartbeats 4000000 in
theorem reach12_any {w : World} {v vd : Value} {nv : List NV} {dn : List I3} (h0 : GrIn w v vd nv dn) (a1 a2 a3 : Int) :
    Calls Try.prog 19 #[v, .agg #[.int .i64 a1, .int .i64 a2, .int .i64 a3]] w (fun e w' => ∃ M, Hid (∀ x, x ∈ M ↔ Rch (stepsV (webL nv)) (a1, a2, a3) x) ∧ Hid (M.length ≤ 196) ∧ RowP (clnI M) w e w') := by
  have h := h0.none
  clear h0
  have HVal : Hid (∀ W, Below w.heap.size w W → Calls Try.prog 14 #[v] W fun e w' => e = .returned (.bool true) ∧ Below W.heap.size W w') := Lib.hid fun W hW => by
    have q := rvalidN_any (h.row.below hW) (by have := h.few.few; omega)
    rwa [decide_eq_true (⟨by have := h.few.few; omega, h.one⟩ : nv.length ≤ 1024 ∧ (nv.map (·.d.id)).Nodup)] at q
  have HLead : Hid (∀ x1 x2 x3 W, Below w.heap.size w W → Calls Try.prog 39 #[v, .agg #[.int .i64 x1, .int .i64 x2, .int .i64 x3], (.slice none 0 0)] W (LeadP nv [] (x1, x2, x3) W)) := Lib.hid fun x1 x2 x3 W hW => lead_any (h.below hW) x1 x2 x3
  obtain ⟨av, cv, hv, -, -⟩ := h.row.el
  subst hv
  obtain ⟨N, hN⟩ : ∃ N, nv.length = N := ⟨_, rfl⟩
  rw [hN] at HVal HLead ⊢
  clear h hN
  go_enter Try.func19, Try.ntmps19
  go_wp2_with fail
  obtain ⟨W0, hW0⟩ : ∃ W0, w.alloc (.cells #[.int .i64 a1, .int .i64 a2, .int .i64 a3] 25) = W0 := ⟨_, rfl⟩
  have HB0 : Hid (Below w.heap.size w W0) := Lib.hid (by rw [← hW0]; exact (Below.refl _ _).alloc (Nat.le_refl _) _)
  have HX0 : Hid (Bk W0 w.heap.size 25 [.int .i64 a1, .int .i64 a2, .int .i64 a3]) := Lib.hid (by rw [← hW0]; exact Bk.new w _ [.int .i64 a1, .int .i64 a2, .int .i64 a3])
  try rw [hW0]
  clear hW0
  refine (HVal.out W0 HB0.out).mono ?_
  rintro e w1 ⟨rfl, hb⟩
  have HB1 := Lib.hid (HB0.out.trans (hb.mono HB0.out.size))
  have hx1 := Bk.below HX0.out hb
  have c0 := Bk.cell hx1 0
  have c1 := Bk.cell hx1 1
  have c2 := Bk.cell hx1 2
  simp only [List.getElem?_cons_zero, List.getElem?_cons_succ] at c0 c1 c2
  clear hb hx1 HX0 HB0 HVal
  go_wp2_with fail
  refine (HLead.out a1 a2 a3 w1 HB1.out).mono ?_
  rintro e w2 ⟨M, v2, he, hM, ho, hb⟩
  rw [he.out]
  obtain ⟨a2', c2', e2⟩ := ho.slice
  subst e2
  have HB2 := Lib.hid (HB1.out.trans (hb.mono HB1.out.size))
  have HCl := Lib.hid (rclean_any _ _ w2 ho.rd (by have := hM.out.few; omega))
  have HMm : Hid (∀ x, x ∈ M ↔ Rch (stepsV (webL nv)) (a1, a2, a3) x) := Lib.hid (by have q := hM.out.mem; rwa [cutS_nil] at q)
  have HMf := Lib.hid hM.out.few
  obtain ⟨n2, hn2⟩ : ∃ q, M.length = q := ⟨_, rfl⟩
  rw [hn2] at HCl ⊢
  clear he hM ho hb hn2 c0 c1 c2 HLead HB1
  go_wp2_with fail
  refine HCl.out.mono ?_
  rintro e w3 ⟨v3, he, ho, hb⟩
  rw [he.out]
  have HB3 := Lib.hid (HB2.out.trans (hb.mono HB2.out.size))
  have HO3 := Lib.hid (ho.base HB2.out.size)
  clear he ho hb HCl HB2
  go_wp2
  go_ret
  exact ⟨M, HMm, HMf, v3, Lib.hid rfl, HO3.out, HB3.out⟩
/-- One that is reached may be there. -/
def fineB (nv : List NV) (dn : List I3) (y : I3) : Bool := hasI (idsN nv) y || hasI dn y
set_option maxHeartbeats 8000000 in
theorem ready12_any {w : World} {v vd : Value} {nv : List NV} {dn : List I3} (h : GrIn w v vd nv dn) :
    Calls Try.prog 21 #[v, vd] w (fun e w' => ∃ S, Hid (∀ x, x ∈ S ↔ x ∈ idsN nv ∧ RdyX nv dn x) ∧ RowP (clnI S) w e w') := by
  have HVal : Hid (∀ W, Below w.heap.size w W → Calls Try.prog 14 #[v] W fun e w' => e = .returned (.bool true) ∧ Below W.heap.size W w') := Lib.hid fun W hW => by
    have q := rvalidN_any (h.row.below hW) (by have := h.few.few; omega)
    rwa [decide_eq_true (⟨by have := h.few.few; omega, h.one⟩ : nv.length ≤ 1024 ∧ (nv.map (·.d.id)).Nodup)] at q
  have HFind : Hid (∀ x1 x2 x3 W, Below w.heap.size w W → Calls Try.prog 35 #[v, .agg #[.int .i64 x1, .int .i64 x2, .int .i64 x3]] W fun e w' => ∃ k : Int, Hid (e = .returned (.int .i64 k)) ∧ Hid (FndIs nv (x1, x2, x3) k) ∧ Below W.heap.size W w') := Lib.hid fun x1 x2 x3 W hW => rfindN_any (h.row.below hW) (by have := h.few.few; omega) x1 x2 x3
  have HHas : Hid (∀ x1 x2 x3 W, Below w.heap.size w W → Calls Try.prog 33 #[vd, .agg #[.int .i64 x1, .int .i64 x2, .int .i64 x3]] W fun e w' => e = .returned (.bool (hasI dn (x1, x2, x3))) ∧ Below W.heap.size W w') := Lib.hid fun x1 x2 x3 W hW => rhas_any vd dn x1 x2 x3 W (h.don.below hW) (by have := h.few.over; omega)
  have HLead : Hid (∀ x1 x2 x3 W, Below w.heap.size w W → Calls Try.prog 39 #[v, .agg #[.int .i64 x1, .int .i64 x2, .int .i64 x3], vd] W (LeadP nv dn (x1, x2, x3) W)) := Lib.hid fun x1 x2 x3 W hW => lead_any (h.below hW) x1 x2 x3
  obtain ⟨av, cv, hv, -, -⟩ := h.row.el
  obtain ⟨ad, cd, hd⟩ := h.don.slice
  subst hv
  subst hd
  obtain ⟨N, hN⟩ : ∃ N, nv.length = N := ⟨_, rfl⟩
  obtain ⟨Nd, hNd⟩ : ∃ N, dn.length = N := ⟨_, rfl⟩
  have HN := Lib.hid hN
  rw [hN] at h HVal HFind HLead ⊢
  rw [hNd] at h HHas HLead ⊢
  have HG := Lib.hid h
  have hN14 : N ≤ 14 := by rw [← hN]; exact h.few.few
  clear h hN hNd
  go_enter Try.func21, Try.ntmps21
  go_wp2_with fail
  refine (HVal.out w (Below.refl _ _)).mono ?_
  rintro e w1 ⟨rfl, hb⟩
  have HB1 := Lib.hid hb
  clear hb HVal
  go_wp2_with fail
  go_loopw [5, 6] (fun t i wr => ∃ (ta : Option Addr) (T tc k : Nat) (S : List I3), t = .slice ta T tc ∧ i = .int .i64 k ∧ k ≤ N ∧ Hid (S.length = T ∧ T ≤ k) ∧ Hid (IK.Own wr w.heap.size (.slice ta T tc) S) ∧ Hid (∀ x, x ∈ S ↔ x ∈ idsN (nv.take k) ∧ RdyX nv dn x) ∧ Hid (Below w.heap.size w wr)) (fun _ i _ => N - (intOf i).toNat)
  case atStart => exact ⟨none, 0, 0, 0, [], rfl, rfl, Nat.zero_le _, Lib.hid ⟨rfl, Nat.le_refl _⟩, Lib.hid (Knd.Own.nil _ _), Lib.hid (fun x => by simp [idsN]), HB1⟩
  case round =>
    clear HB1
    obtain ⟨ta, T, tc, k, S, rfl, rfl, hk, HT, HO, HS, HB⟩ := hrel
    by_cases hlt : k < N
    · have kN1 : (k : Int) < (N : Int) := by omega
      have kN2 : decide ((k : Int) < (N : Int)) = true := decide_eq_true kN1
      have kN3 : decide (k < N) = true := decide_eq_true (by omega)
      obtain ⟨x, g, off, hx, ha, hg, d0, d1, d2, -, -, -⟩ := HG.out.row.cells HB.out k hlt
      obtain ⟨g0, hg0⟩ : ∃ q : Nat, q = g := ⟨_, rfl⟩
      have HSn : Hid (idsN (nv.take (k + 1)) = idsN (nv.take k) ++ [x.d.id]) := Lib.hid (by unfold idsN; rw [take_snoc hx, List.map_append]; rfl)
      have HXm : Hid (x.d.id ∈ idsN nv) := Lib.hid (List.mem_map.2 ⟨x, List.mem_iff_getElem?.2 ⟨k, hx⟩, rfl⟩)
      obtain ⟨⟨i1, i2, i3⟩, hi⟩ : ∃ q, x.d.id = q := ⟨_, rfl⟩
      rw [hi] at d0 d1 d2 HSn HXm
      have HCx : Hid (∀ wq, Below wr.heap.size wr wq → wq.cell? ⟨g, off + k * 5, none⟩ = some (.int .i64 i1) ∧ wq.cell? ⟨g, off + k * 5 + 1, none⟩ = some (.int .i64 i2) ∧ wq.cell? ⟨g, off + k * 5 + 2, none⟩ = some (.int .i64 i3)) := Lib.hid (by
        have hgr : g < wr.heap.size := Nat.lt_of_lt_of_le hg HB.out.size
        exact fun wq hq => ⟨(hq.cell (p := ⟨g, off + k * 5, none⟩) hgr).trans d0, (hq.cell (p := ⟨g, off + k * 5 + 1, none⟩) hgr).trans d1, (hq.cell (p := ⟨g, off + k * 5 + 2, none⟩) hgr).trans d2⟩)
      subst ha
      clear hx hg hi hg0
      go_wp2_with fail
      refine (HLead.out i1 i2 i3 wr HB.out).mono ?_
      rintro e w2 ⟨M, v2, he, hM, ho, hb⟩
      rw [he.out]
      obtain ⟨am, cm, e2⟩ := ho.slice
      subst e2
      have HM := hM
      obtain ⟨nm, hnm⟩ : ∃ q, M.length = q := ⟨_, rfl⟩
      rw [hnm] at ho ⊢
      have hnm196 : nm ≤ 196 := by rw [← hnm]; exact hM.out.few
      have HOM := Lib.hid (ho.base HB.out.size)
      have HOS := Lib.hid (HO.out.below hb)
      have HB2 := Lib.hid (HB.out.trans (hb.mono HB.out.size))
      have HBw := Lib.hid hb
      have HNm := Lib.hid hnm
      obtain ⟨d0, d1, d2⟩ := HCx.out _ hb
      clear he hM ho hb hnm HO HB
      go_wp2_with fail
      refine (HHas.out i1 i2 i3 w2 HB2.out).mono ?_
      rintro e w3 ⟨rfl, hb⟩
      have HB3 := Lib.hid (HB2.out.trans (hb.mono HB2.out.size))
      have HBw3 := Lib.hid (HBw.out.trans (hb.mono HBw.out.size))
      have HOM3 := Lib.hid (HOM.out.below hb)
      have HOS3 := Lib.hid (HOS.out.below hb)
      obtain ⟨b0, hb0⟩ : ∃ q, hasI dn (i1, i2, i3) = q := ⟨_, rfl⟩
      rw [hb0]
      have HB0e := Lib.hid hb0
      clear hb hb0 d0 d1 d2 HBw HB2 HOM HOS
      go_wp2_with fail
      go_loopw [8, 9] (fun b j wr => ∃ (m : Nat) (bb : Bool), b = .bool bb ∧ j = .int .i64 m ∧ m ≤ nm ∧ Hid (bb = (!b0 && (M.take m).all (fineB nv dn))) ∧ Hid (Below w3.heap.size w3 wr)) (fun _ j _ => nm - (intOf j).toNat)
      case atStart => exact ⟨0, !b0, rfl, rfl, Nat.zero_le _, Lib.hid (by simp), Lib.hid (Below.refl _ _)⟩
      case round =>
        obtain ⟨m, bb, rfl, rfl, hm, HBb, HBl⟩ := hrel
        by_cases hmn : m < nm
        · have mnm1 : (m : Int) < (nm : Int) := by omega
          have mnm2 : decide ((m : Int) < (nm : Int)) = true := decide_eq_true mnm1
          have mnm3 : decide (m < nm) = true := decide_eq_true (by omega)
          obtain ⟨e0, g2, off2, hda, hg2, q1, q2, q3, hjl⟩ := idCell (HOM3.out.rd.below HBl.out) m hmn
          obtain ⟨⟨y1, y2, y3⟩, hX⟩ : ∃ X, M.getD m (0, 0, 0) = X := ⟨_, rfl⟩
          rw [hX] at q1 q2 q3
          have HAll : Hid ((M.take (m + 1)).all (fineB nv dn) = ((M.take m).all (fineB nv dn) && fineB nv dn (y1, y2, y3))) := Lib.hid (by
            rw [take_snoc (show M[m]? = some (y1, y2, y3) by rw [← hX]; simp [List.getD, hjl]), List.all_append]
            simp)
          subst hda
          clear e0 hX hjl
          cases bb with
          | false =>
            have HBn : Hid (false = (!b0 && (M.take (m + 1)).all (fineB nv dn))) := Lib.hid (by rw [HAll.out, ← Bool.and_assoc, ← HBb.out]; simp)
            clear HBb HAll q1 q2 q3 hg2
            go_wp2_with fail
            go_roundw
            case rel => exact ⟨m + 1, false, rfl, by go_num, by omega, HBn, HBl⟩
            case measure => simp [intOf]; omega
          | true =>
            have HBl1 := Lib.hid (HB3.out.trans (HBl.out.mono HB3.out.size))
            have HBn : Hid (∀ q, fineB nv dn (y1, y2, y3) = q → q = (!b0 && (M.take (m + 1)).all (fineB nv dn))) := Lib.hid (fun q hq => by rw [HAll.out, ← Bool.and_assoc, ← HBb.out, hq]; simp)
            have HCy : Hid (∀ wq, Below wr.heap.size wr wq → wq.cell? ⟨g2, off2 + m * 3, none⟩ = some (.int .i64 y1) ∧ wq.cell? ⟨g2, off2 + m * 3 + 1, none⟩ = some (.int .i64 y2) ∧ wq.cell? ⟨g2, off2 + m * 3 + 2, none⟩ = some (.int .i64 y3)) := Lib.hid fun wq hq => ⟨(hq.cell (p := ⟨g2, off2 + m * 3, none⟩) hg2).trans q1, (hq.cell (p := ⟨g2, off2 + m * 3 + 1, none⟩) hg2).trans q2, (hq.cell (p := ⟨g2, off2 + m * 3 + 2, none⟩) hg2).trans q3⟩
            clear HBb HAll hg2
            go_wp2_with fail
            refine (HFind.out y1 y2 y3 wr HBl1.out).mono ?_
            rintro e w4 ⟨kx, he, hfx, hb⟩
            rw [he.out]
            have HBl4 := Lib.hid (HBl.out.trans (hb.mono HBl.out.size))
            have HB4 := Lib.hid (HBl1.out.trans (hb.mono HBl1.out.size))
            obtain ⟨q1, q2, q3⟩ := HCy.out _ hb
            have HFx := hfx.out
            clear he hb hfx HBl HBl1
            rcases fnd_cases HG.out.one HFx with ⟨rfl, hni, -⟩ | ⟨j, x, hjN, rfl, -, hxi, hxm, -⟩
            · have HFi : Hid (fineB nv dn (y1, y2, y3) = hasI dn (y1, y2, y3)) := Lib.hid (by unfold fineB; rw [(hasI_false _ _).2 hni]; rfl)
              clear hni HFx
              go_wp2_with fail
              refine (HHas.out y1 y2 y3 w4 HB4.out).mono ?_
              rintro e w5 ⟨rfl, hb⟩
              have HBl5 := Lib.hid (HBl4.out.trans (hb.mono HBl4.out.size))
              obtain ⟨qb, hqb⟩ : ∃ q, hasI dn (y1, y2, y3) = q := ⟨_, rfl⟩
              rw [hqb]
              have HBq : Hid (qb = (!b0 && (M.take (m + 1)).all (fineB nv dn))) := Lib.hid (HBn.out qb (by rw [HFi.out, hqb]))
              clear hb hqb HBn HFi HBl4 HB4 HCy q1 q2 q3
              go_wp2_with fail
              go_roundw
              case rel => exact ⟨m + 1, qb, rfl, by go_num, by omega, HBq, HBl5⟩
              case measure => simp [intOf]; omega
            · have HBq : Hid (true = (!b0 && (M.take (m + 1)).all (fineB nv dn))) := Lib.hid (HBn.out true (by unfold fineB; rw [(hasI_iff _ _).2 (List.mem_map.2 ⟨x, hxm, hxi⟩)]; rfl))
              have j0 : (0 : Int) ≤ (j : Int) := by omega
              have j00 : decide ((0 : Int) ≤ (j : Int)) = true := decide_eq_true j0
              have j01 : ¬ (j : Int) < 0 := by omega
              have j02 : decide ((j : Int) < 0) = false := decide_eq_false j01
              clear hxi hxm HFx HBn HCy hjN q1 q2 q3
              go_wp2_with fail
              go_roundw
              case rel => exact ⟨m + 1, true, rfl, by go_num, by omega, HBq, HBl4⟩
              case measure => simp [intOf]; omega
        · obtain rfl : m = nm := by omega
          have mm1 : ¬ (m : Int) < (m : Int) := by omega
          have mm2 : decide ((m : Int) < (m : Int)) = false := decide_eq_false mm1
          have mm3 : decide (m < m) = false := decide_eq_false (by omega)
          have HB4 := Lib.hid (HB3.out.trans (HBl.out.mono HB3.out.size))
          have HOS4 := Lib.hid (HOS3.out.below HBl.out)
          have HRX : Hid (bb = true ↔ RdyX nv dn (i1, i2, i3)) := Lib.hid (by
            have q := HBb.out
            rw [List.take_of_length_le (by rw [HNm.out]; exact Nat.le_refl _)] at q
            rw [q]
            unfold RdyX
            rw [Bool.and_eq_true, List.all_eq_true]
            constructor
            · rintro ⟨r1, r2⟩
              refine ⟨fun r => ?_, fun y hy => ?_⟩
              · rw [(hasI_iff _ _).2 r] at HB0e
                rw [← HB0e.out] at r1
                cases r1
              · have r3 := r2 y ((HM.out.mem y).2 hy)
                unfold fineB at r3
                rw [Bool.or_eq_true, hasI_iff, hasI_iff] at r3
                exact r3
            · rintro ⟨r1, r2⟩
              refine ⟨?_, fun y hy => ?_⟩
              · rw [← HB0e.out, (hasI_false _ _).2 r1]; rfl
              · unfold fineB
                rw [Bool.or_eq_true, hasI_iff, hasI_iff]
                exact r2 y ((HM.out.mem y).1 hy))
          cases bb with
          | true =>
            have HS2 : Hid (∀ x, x ∈ S ++ [(i1, i2, i3)] ↔ x ∈ idsN (nv.take (k + 1)) ∧ RdyX nv dn x) := Lib.hid fun x => by
              rw [List.mem_append, HS.out x, HSn.out, List.mem_append]
              constructor
              · rintro (q | q)
                · exact ⟨.inl q.1, q.2⟩
                · simp at q
                  subst q
                  exact ⟨.inr (by simp), HRX.out.1 rfl⟩
              · rintro ⟨q1 | q1, q2⟩
                · exact .inl ⟨q1, q2⟩
                · exact .inr q1
            have HL6 : Hid (S.length + 1 ≤ 1000000) := Lib.hid (by have := HT.out; omega)
            have HT1 : Hid ((S ++ [(i1, i2, i3)]).length = T + 1 ∧ T + 1 ≤ k + 1) := Lib.hid (by rw [List.length_append]; have := HT.out; simp; omega)
            obtain ⟨d0, d1, d2⟩ := HCx.out _ (HBw3.out.trans (HBl.out.mono HBw3.out.size))
            have hz6 := HB4.out.size
            clear HBb HBl HRX HM HS HSn HXm HBw3 HCx
            go_wp2_with (refine IK.app rfl _ _ rfl w.heap.size (.slice ta T tc) S rfl ?own _ [(i1, i2, i3)] rfl ?rd HL6.out ?bs ?_)
            case own => exact HOS4.out.below ((Below.refl _ _).alloc (Nat.le_refl _) _)
            case rd => exact IK.rd_boxAt (i1, i2, i3) _ 1 _ _ (by simp)
            case bs => first | omega | (simp; omega) | fail
            intro v7 w7 ho hb _ _
            obtain ⟨a7, c7, e7⟩ := ho.slice
            rw [HT1.out.1] at e7
            subst e7
            have HO7 := Lib.hid ho
            have HB7 : Hid (Below w.heap.size w w7) := Lib.hid ((HB4.out.alloc hz6 _).trans hb)
            clear ho hb HOS4 HB4 d0 d1 d2 hz6
            go_wp2
            go_roundw
            case rel => exact ⟨a7, T + 1, c7, k + 1, _, rfl, by go_num, by omega, HT1, HO7, HS2, HB7⟩
            case measure => simp [intOf]; omega
          | false =>
            have HS2 : Hid (∀ x, x ∈ S ↔ x ∈ idsN (nv.take (k + 1)) ∧ RdyX nv dn x) := Lib.hid fun x => by
              rw [HS.out x, HSn.out, List.mem_append]
              constructor
              · rintro q
                exact ⟨.inl q.1, q.2⟩
              · rintro ⟨q1 | q1, q2⟩
                · exact ⟨q1, q2⟩
                · simp at q1
                  subst q1
                  exact absurd (HRX.out.2 q2) (by simp)
            have HT1 : Hid (S.length = T ∧ T ≤ k + 1) := Lib.hid (by have := HT.out; omega)
            clear HBb HBl HRX HM HS HSn HXm HBw3 HCx
            go_wp2_with fail
            go_roundw
            case rel => exact ⟨_, T, tc, k + 1, S, rfl, by go_num, by omega, HT1, HOS4, HS2, HB4⟩
            case measure => simp [intOf]; omega
    · obtain rfl : k = N := by omega
      have kk1 : ¬ (k : Int) < (k : Int) := by omega
      have kk2 : decide ((k : Int) < (k : Int)) = false := decide_eq_false kk1
      have kk3 : decide (k < k) = false := decide_eq_false (by omega)
      have HCl := Lib.hid (rclean_any _ _ wr HO.out.rd (by have := HT.out; omega))
      have HSe : Hid (∀ x, x ∈ S ↔ x ∈ idsN nv ∧ RdyX nv dn x) := Lib.hid (by
        have q := HS.out
        rwa [List.take_of_length_le (by rw [HN.out]; exact Nat.le_refl _)] at q)
      clear HS HO
      go_wp2_with fail
      refine HCl.out.mono ?_
      rintro e w3 ⟨v3, he, ho, hb⟩
      rw [he.out]
      have HB3 := Lib.hid (HB.out.trans (hb.mono HB.out.size))
      have HO3 := Lib.hid (ho.base HB.out.size)
      clear he ho hb HCl HB
      go_wp2
      go_ret
      exact ⟨S, HSe, v3, Lib.hid rfl, HO3.out, HB3.out⟩
end Go.Proofs.Ytlckjpjcfalfnaa
namespace Go.Proofs.Ytlckjpjcfalfnaa
open Go.RowKit Go.Sort
open Go.WideMaps
set_option linter.unusedSimpArgs false
set_option linter.unusedVariables false
set_option maxRecDepth 100000

/-- Who leads to whom and back, of those gone through. -/
structure GrI (f : I3 → List I3) (nv : List NV) (dn : List I3) (x : I3) (M G : List I3) (k : Nat) : Prop where
  nd : G.Nodup
  in' : ∀ y, y ∈ G ↔ y = x ∨ (y ∈ M.take k ∧ y ∉ dn ∧ Rch (cutS (webL nv) dn y) y x)
  mnd : M.Nodup
  len : G.length ≤ k + 1
theorem GrI.skip {f : I3 → List I3} {nv : List NV} {dn M G : List I3} {x y : I3} {k : Nat} (h : GrI f nv dn x M G k) (hy : M[k]? = some y) (hn : ¬ (y ∉ dn ∧ Rch (cutS (webL nv) dn y) y x)) : GrI f nv dn x M G (k + 1) := by
  refine ⟨h.nd, fun z => ?_, h.mnd, by have := h.len; omega⟩
  rw [h.in' z, take_snoc hy, List.mem_append]
  constructor
  · rintro (q | ⟨q1, q2⟩)
    · exact .inl q
    · exact .inr ⟨.inl q1, q2⟩
  · rintro (q | ⟨q1 | q1, q2⟩)
    · exact .inl q
    · exact .inr ⟨q1, q2⟩
    · simp at q1
      subst q1
      exact absurd q2 hn
theorem GrI.same {f : I3 → List I3} {nv : List NV} {dn M G : List I3} {x : I3} {k : Nat} (h : GrI f nv dn x M G k) (hy : M[k]? = some x) : GrI f nv dn x M G (k + 1) := by
  refine ⟨h.nd, fun z => ?_, h.mnd, by have := h.len; omega⟩
  rw [h.in' z, take_snoc hy, List.mem_append]
  constructor
  · rintro (q | ⟨q1, q2⟩)
    · exact .inl q
    · exact .inr ⟨.inl q1, q2⟩
  · rintro (q | ⟨q1 | q1, q2⟩)
    · exact .inl q
    · exact .inr ⟨q1, q2⟩
    · simp at q1
      exact .inl q1
theorem GrI.put {f : I3 → List I3} {nv : List NV} {dn M G : List I3} {x y : I3} {k : Nat} (h : GrI f nv dn x M G k) (hy : M[k]? = some y) (hne : y ≠ x) (hd : y ∉ dn) (hr : Rch (cutS (webL nv) dn y) y x) : GrI f nv dn x M (G ++ [y]) (k + 1) := by
  have hyG : y ∉ G := fun q => by
    rcases (h.in' y).1 q with r | ⟨r, _⟩
    · exact hne r
    · obtain ⟨i, hi⟩ := List.mem_iff_getElem?.1 r
      rw [List.getElem?_take] at hi
      split at hi
      · rename_i hik
        obtain ⟨l1, e1⟩ := List.getElem?_eq_some_iff.1 hi
        obtain ⟨l2, e2⟩ := List.getElem?_eq_some_iff.1 hy
        exact absurd (e1.trans e2.symm) (List.pairwise_iff_getElem.1 h.mnd i k l1 l2 hik)
      · cases hi
  refine ⟨?_, fun z => ?_, h.mnd, by rw [List.length_append]; have := h.len; simp; omega⟩
  · rw [List.nodup_append]
    refine ⟨h.nd, by simp, fun p hp q hq => ?_⟩
    simp at hq
    subst hq
    rintro rfl
    exact hyG hp
  · rw [List.mem_append, h.in' z, take_snoc hy, List.mem_append]
    constructor
    · rintro ((q | ⟨q1, q2⟩) | q)
      · exact .inl q
      · exact .inr ⟨.inl q1, q2⟩
      · simp at q
        subst q
        exact .inr ⟨.inr (by simp), hd, hr⟩
    · rintro (q | ⟨q1 | q1, q2⟩)
      · exact .inl (.inl q)
      · exact .inl (.inr ⟨q1, q2⟩)
      · exact .inr q1
/-- The group of one. -/
structure GrpIs (nv : List NV) (dn : List I3) (x : I3) (G : List I3) : Prop where
  nd : G.Nodup
  mem : ∀ y, y ∈ G ↔ y = x ∨ (y ∉ dn ∧ Rch (cutS (webL nv) dn x) x y ∧ Rch (cutS (webL nv) dn y) y x)
  few : G.length ≤ 197
set_option maxHeartbeats 16000000 in
theorem group12_any {w : World} {v vd : Value} {nv : List NV} {dn : List I3} (h : GrIn w v vd nv dn) (x1 x2 x3 : Int) :
    Calls Try.prog 34 #[v, .agg #[.int .i64 x1, .int .i64 x2, .int .i64 x3], vd] w (fun e w' => ∃ G v', Hid (e = .returned v') ∧ Hid (GrpIs nv dn (x1, x2, x3) G) ∧ IK.Own w' w.heap.size v' G ∧ Below w.heap.size w w') := by
  obtain ⟨f, hf⟩ : ∃ f, cutS (webL nv) dn (x1, x2, x3) = f := ⟨_, rfl⟩
  have HHas : Hid (∀ x1 x2 x3 W, Below w.heap.size w W → Calls Try.prog 33 #[vd, .agg #[.int .i64 x1, .int .i64 x2, .int .i64 x3]] W fun e w' => e = .returned (.bool (hasI dn (x1, x2, x3))) ∧ Below W.heap.size W w') := Lib.hid fun x1 x2 x3 W hW => rhas_any vd dn x1 x2 x3 W (h.don.below hW) (by have := h.few.over; omega)
  have HLead : Hid (∀ x1 x2 x3 W, Below w.heap.size w W → Calls Try.prog 39 #[v, .agg #[.int .i64 x1, .int .i64 x2, .int .i64 x3], vd] W (LeadP nv dn (x1, x2, x3) W)) := Lib.hid fun x1 x2 x3 W hW => lead_any (h.below hW) x1 x2 x3
  obtain ⟨av, cv, hv, -, -⟩ := h.row.el
  obtain ⟨ad, cd, hd⟩ := h.don.slice
  subst hv
  subst hd
  obtain ⟨N, hN⟩ : ∃ N, nv.length = N := ⟨_, rfl⟩
  obtain ⟨Nd, hNd⟩ : ∃ N, dn.length = N := ⟨_, rfl⟩
  have HN := Lib.hid hN
  rw [hN] at h HLead ⊢
  rw [hNd] at h HHas HLead ⊢
  clear h hN hNd hf
  obtain ⟨bx, hbx⟩ : ∃ q, w.heap.size = q := ⟨_, rfl⟩
  obtain ⟨W0, hW0⟩ : ∃ W0, w.alloc (.cells #[.int .i64 x1, .int .i64 x2, .int .i64 x3] 25) = W0 := ⟨_, rfl⟩
  have HB0 : Hid (Below w.heap.size w W0) := Lib.hid (by rw [← hW0]; exact (Below.refl _ _).alloc (Nat.le_refl _) _)
  have HX0 : Hid (Bk W0 bx 25 [.int .i64 x1, .int .i64 x2, .int .i64 x3]) := Lib.hid (by rw [← hW0]; exact Bk.newAg hbx _ [.int .i64 x1, .int .i64 x2, .int .i64 x3])
  have hz0 : W0.heap.size = w.heap.size + 1 := by rw [← hW0]; simp
  have HZ0 := Lib.hid hz0
  have HBX := Lib.hid hbx
  have hx0 := HX0.out
  have c0 := Bk.cell hx0 0
  have c1 := Bk.cell hx0 1
  have c2 := Bk.cell hx0 2
  simp only [List.getElem?_cons_zero, List.getElem?_cons_succ] at c0 c1 c2
  clear hx0
  have hzb : W0.heap.size = bx + 1 := by rw [← hW0, ← hbx]; simp
  obtain ⟨W1, hW1⟩ : ∃ W1, W0.alloc (.cells #[.int .i64 x1, .int .i64 x2, .int .i64 x3] 25) = W1 := ⟨_, rfl⟩
  have HB1 : Hid (Below (w.heap.size + 1) W0 W1) := Lib.hid (by rw [← hW1]; exact (Below.refl _ _).alloc (by rw [HZ0.out]; exact Nat.le_refl _) _)
  have HO1 : Hid (IK.Own W1 (w.heap.size + 1) (.slice (some ⟨bx + 1, 0, none⟩) 1 1) [(x1, x2, x3)]) := Lib.hid (by rw [← hW1]; exact own_lit (K := IK) (x1, x2, x3) hzb (by rw [hbx]; exact Nat.le_refl _) rfl)
  have hx1 := HX0.out.on HB1.out (by rw [← HBX.out]; exact Nat.lt_succ_self _)
  have e0 := Bk.cell hx1 0
  have e1 := Bk.cell hx1 1
  have e2 := Bk.cell hx1 2
  simp only [List.getElem?_cons_zero, List.getElem?_cons_succ] at e0 e1 e2
  clear hx1
  have HSz : Hid (∀ wq, Below (w.heap.size + 1) W0 wq → w.heap.size + 1 ≤ wq.heap.size) := Lib.hid fun wq hq => Nat.le_trans (by rw [← HZ0.out]; exact Nat.le_refl _) hq.size
  go_enter Try.func34, Try.ntmps34
  go_wp2_with fail
  try rw [hW0]
  try rw [hbx]
  clear hW0 hz0 hbx
  clear hW1 hzb c0 c1 c2 e0 e1 e2
  have HW1 : Hid (Below w.heap.size w W1) := Lib.hid (HB0.out.trans (HB1.out.mono (Nat.le_succ _)))
  refine (HLead.out x1 x2 x3 W1 HW1.out).mono ?_
  rintro e w2 ⟨M, v2, he, hM, ho, hb⟩
  rw [he.out]
  obtain ⟨am, cm, e2⟩ := ho.slice
  subst e2
  obtain ⟨nm, hnm⟩ : ∃ q, M.length = q := ⟨_, rfl⟩
  rw [hnm] at ho ⊢
  have hnm196 : nm ≤ 196 := by rw [← hnm]; exact hM.out.few
  have HNm := Lib.hid hnm
  have HLM := hM
  have hsz1 : w.heap.size + 1 ≤ W1.heap.size := Nat.le_trans (by rw [← HZ0.out]; exact Nat.le_refl _) HB1.out.size
  have HM2 := Lib.hid (ho.base hsz1)
  have HO2 := Lib.hid (HO1.out.below hb)
  have HB2 := Lib.hid (HB1.out.trans (hb.mono hsz1))
  have HAp2 : Hid (∀ q, (Value.slice (some ⟨bx + 1, 0, none⟩) 1 1).ownBlock = some q → (Value.slice am nm cm).ownBlock ≠ some q) := Lib.hid (fun q hq e => by
    have r1 := (HO1.out.blk q hq).1
    have r2 := ho.from q e
    omega)
  have HI2 : Hid (GrI f nv dn (x1, x2, x3) M [(x1, x2, x3)] 0) := Lib.hid ⟨by simp, (fun y => by simp), hM.out.nd, by simp⟩
  clear he hM ho hb hnm hsz1 HO1 HB1 HW1
  go_wp2_with fail
  go_loopw [7, 9] (fun t i wr => ∃ (ta : Option Addr) (T tc k : Nat) (G : List I3), t = .slice ta T tc ∧ i = .int .i64 k ∧ k ≤ nm ∧ Hid (G.length = T) ∧ Hid (IK.Own wr (w.heap.size + 1) (.slice ta T tc) G) ∧ Hid (IK.Own wr (w.heap.size + 1) (.slice am nm cm) M) ∧ Hid (∀ q, (Value.slice ta T tc).ownBlock = some q → (Value.slice am nm cm).ownBlock ≠ some q) ∧ Hid (GrI f nv dn (x1, x2, x3) M G k) ∧ Hid (Below (w.heap.size + 1) W0 wr)) (fun _ i _ => nm - (intOf i).toNat)
  case atStart => exact ⟨_, 1, 1, 0, _, rfl, rfl, Nat.zero_le _, Lib.hid rfl, HO2, HM2, HAp2, HI2, HB2⟩
  case round =>
    clear HO2 HM2 HAp2 HI2 HB2
    obtain ⟨ta, T, tc, k, G, rfl, rfl, hk, HT, HO, HM, HAp, HS, HB⟩ := hrel
    have HBW : Hid (Below w.heap.size w wr) := Lib.hid (HB0.out.trans (HB.out.mono (Nat.le_succ _)))
    by_cases hlt : k < nm
    · have knm1 : (k : Int) < (nm : Int) := by omega
      have knm2 : decide ((k : Int) < (nm : Int)) = true := decide_eq_true knm1
      have knm3 : decide (k < nm) = true := decide_eq_true (by omega)
      obtain ⟨e0, gm, om, hda, hgm, q1, q2, q3, hjl⟩ := idCell HM.out.rd k hlt
      obtain ⟨⟨y1, y2, y3⟩, hX⟩ : ∃ X, M.getD k (0, 0, 0) = X := ⟨_, rfl⟩
      rw [hX] at q1 q2 q3
      have HX : Hid (M[k]? = some (y1, y2, y3)) := Lib.hid (by rw [← hX]; simp [List.getD, hjl])
      have hxc := HX0.out.on HB.out (by rw [← HBX.out]; exact Nat.lt_succ_self _)
      have c0 := Bk.cell hxc 0
      have c1 := Bk.cell hxc 1
      have c2 := Bk.cell hxc 2
      have hbxl := hxc.lt
      simp only [List.getElem?_cons_zero, List.getElem?_cons_succ] at c0 c1 c2
      have HC6 : Hid (∀ wq, Below wr.heap.size wr wq → wq.cell? ⟨gm, om + k * 3, none⟩ = some (.int .i64 y1) ∧ wq.cell? ⟨gm, om + k * 3 + 1, none⟩ = some (.int .i64 y2) ∧ wq.cell? ⟨gm, om + k * 3 + 2, none⟩ = some (.int .i64 y3) ∧ wq.cell? ⟨bx, 0, none⟩ = some (.int .i64 x1) ∧ wq.cell? ⟨bx, 1, none⟩ = some (.int .i64 x2) ∧ wq.cell? ⟨bx, 2, none⟩ = some (.int .i64 x3)) := Lib.hid fun wq hq => ⟨(hq.cell (p := ⟨gm, om + k * 3, none⟩) hgm).trans q1, (hq.cell (p := ⟨gm, om + k * 3 + 1, none⟩) hgm).trans q2, (hq.cell (p := ⟨gm, om + k * 3 + 2, none⟩) hgm).trans q3, (hq.cell (p := ⟨bx, 0, none⟩) hbxl).trans c0, (hq.cell (p := ⟨bx, 1, none⟩) hbxl).trans c1, (hq.cell (p := ⟨bx, 2, none⟩) hbxl).trans c2⟩
      subst hda
      obtain ⟨he, hgd⟩ := eqI_run y1 y2 y3 x1 x2 x3
      have hd0 : Below wr.heap.size wr wr.drew := (Below.refl wr.heap.size wr).drew
      clear e0 hX hjl hgm q1 q2 q3 hxc c0 c1 c2 hbxl
      cases hb : decide (((y1, y2, y3) : I3) = (x1, x2, x3)) with
      | true =>
        rw [hb] at he
        have HSk : Hid (GrI f nv dn (x1, x2, x3) M G (k + 1)) := Lib.hid (HS.out.same (by rw [HX.out, of_decide_eq_true hb]))
        clear hb HBW HS HX
        go_wp2_with fail
        refine wp_region_held_drew (S := (fun w' => w'.cell? ⟨gm, om + k * 3, none⟩ = some (.int .i64 y1) ∧ w'.cell? ⟨gm, om + k * 3 + 1, none⟩ = some (.int .i64 y2) ∧ w'.cell? ⟨gm, om + k * 3 + 2, none⟩ = some (.int .i64 y3) ∧ w'.cell? ⟨bx, 0, none⟩ = some (.int .i64 x1) ∧ w'.cell? ⟨bx, 1, none⟩ = some (.int .i64 x2) ∧ w'.cell? ⟨bx, 2, none⟩ = some (.int .i64 x3))) (by kernel_rfl) ?_ (fun hHeld => ?_)
        · ((first
  | exact HC6.out _ hbs
  | exact HC6.out _ hbl
  | exact HC6.out _ (Below.refl _ _)
  | exact HC6.out _ hd0
  | fail))
        refine wpAnyH_take (i := 0) (v := ?_) rfl (by kernel_rfl) (by kernel_rfl) (by kernel_rfl) (fun _ _ _ h => h) (Or.inl ⟨by rfl, ?_⟩) (by assumption) ?_
        rotate_left
        · (intro w hSw; (try dsimp only at hSw); go_simp; try rfl)
        try simp only [Act.put, List.setIfInBounds_toArray, List.set_cons_zero, List.set_cons_succ, List.getElem_toArray, List.getElem_cons_zero, List.getElem_cons_succ]
        refine wpAnyH_take (i := 1) (v := ?_) rfl (by kernel_rfl) (by kernel_rfl) (by kernel_rfl) (fun _ _ _ h => h) (Or.inl ⟨by rfl, ?_⟩) (by assumption) ?_
        rotate_left
        · (intro w hSw; (try dsimp only at hSw); go_simp; try rfl)
        try simp only [Act.put, List.setIfInBounds_toArray, List.set_cons_zero, List.set_cons_succ, List.getElem_toArray, List.getElem_cons_zero, List.getElem_cons_succ]
        refine wpAnyH_take (i := 2) (v := ?_) rfl (by kernel_rfl) (by kernel_rfl) (by kernel_rfl) (fun _ _ _ h => h) (Or.inl ⟨by rfl, ?_⟩) (by assumption) ?_
        rotate_left
        · (intro w hSw; (try dsimp only at hSw); go_simp; try rfl)
        try simp only [Act.put, List.setIfInBounds_toArray, List.set_cons_zero, List.set_cons_succ, List.getElem_toArray, List.getElem_cons_zero, List.getElem_cons_succ]
        refine wpAnyH_take (i := 3) (v := ?_) rfl (by kernel_rfl) (by kernel_rfl) (by kernel_rfl) (fun _ _ _ h => h) (Or.inl ⟨by rfl, ?_⟩) (by assumption) ?_
        rotate_left
        · (intro w hSw; (try dsimp only at hSw); go_simp; try rfl)
        try simp only [Act.put, List.setIfInBounds_toArray, List.set_cons_zero, List.set_cons_succ, List.getElem_toArray, List.getElem_cons_zero, List.getElem_cons_succ]
        refine wpAnyH_take (i := 4) (v := ?_) rfl (by kernel_rfl) (by kernel_rfl) (by kernel_rfl) (fun _ _ _ h => h) (Or.inl ⟨by rfl, ?_⟩) (by assumption) ?_
        rotate_left
        · (intro w hSw; (try dsimp only at hSw); go_simp; try rfl)
        try simp only [Act.put, List.setIfInBounds_toArray, List.set_cons_zero, List.set_cons_succ, List.getElem_toArray, List.getElem_cons_zero, List.getElem_cons_succ]
        refine wpAnyH_take (i := 5) (v := ?_) rfl (by kernel_rfl) (by kernel_rfl) (by kernel_rfl) (fun _ _ _ h => h) (Or.inl ⟨by rfl, ?_⟩) (by assumption) ?_
        rotate_left
        · (intro w hSw; (try dsimp only at hSw); go_simp; try rfl)
        try simp only [Act.put, List.setIfInBounds_toArray, List.set_cons_zero, List.set_cons_succ, List.getElem_toArray, List.getElem_cons_zero, List.getElem_cons_succ]
        refine wpAnyH_take (i := 6) (v := ?_) rfl (by kernel_rfl) (by kernel_rfl) (by kernel_rfl) (fun _ _ _ h => h) (Or.inl ⟨by rfl, ?_⟩) (by assumption) ?_
        rotate_left
        · (intro w hSw; (try dsimp only at hSw); go_simp; try rfl)
        try simp only [Act.put, List.setIfInBounds_toArray, List.set_cons_zero, List.set_cons_succ, List.getElem_toArray, List.getElem_cons_zero, List.getElem_cons_succ]
        refine wpAnyH_take (i := 7) (v := undef) rfl (by kernel_rfl) (by kernel_rfl) (by kernel_rfl) (fun _ _ _ h => h) (Or.inr ⟨by rfl, rfl⟩) (by assumption) ?_
        try simp only [Act.put, List.setIfInBounds_toArray, List.set_cons_zero, List.set_cons_succ, List.getElem_toArray, List.getElem_cons_zero, List.getElem_cons_succ]
        refine wpAnyH_take (i := 8) (v := undef) rfl (by kernel_rfl) (by kernel_rfl) (by kernel_rfl) (fun _ _ _ h => h) (Or.inr ⟨by rfl, rfl⟩) (by assumption) ?_
        try simp only [Act.put, List.setIfInBounds_toArray, List.set_cons_zero, List.set_cons_succ, List.getElem_toArray, List.getElem_cons_zero, List.getElem_cons_succ]
        refine wpAnyH_take (i := 9) (v := undef) rfl (by kernel_rfl) (by kernel_rfl) (by kernel_rfl) (fun _ _ _ h => h) (Or.inr ⟨by rfl, rfl⟩) (by assumption) ?_
        try simp only [Act.put, List.setIfInBounds_toArray, List.set_cons_zero, List.set_cons_succ, List.getElem_toArray, List.getElem_cons_zero, List.getElem_cons_succ]
        refine wpAnyH_take (i := 10) (v := undef) rfl (by kernel_rfl) (by kernel_rfl) (by kernel_rfl) (fun _ _ _ h => h) (Or.inr ⟨by rfl, rfl⟩) (by assumption) ?_
        try simp only [Act.put, List.setIfInBounds_toArray, List.set_cons_zero, List.set_cons_succ, List.getElem_toArray, List.getElem_cons_zero, List.getElem_cons_succ]
        refine wpAnyH_take (i := 11) (v := undef) rfl (by kernel_rfl) (by kernel_rfl) (by kernel_rfl) (fun _ _ _ h => h) (Or.inr ⟨by rfl, rfl⟩) (by assumption) ?_
        try simp only [Act.put, List.setIfInBounds_toArray, List.set_cons_zero, List.set_cons_succ, List.getElem_toArray, List.getElem_cons_zero, List.getElem_cons_succ]
        refine wpAnyH_take (i := 12) (v := undef) rfl (by kernel_rfl) (by kernel_rfl) (by kernel_rfl) (fun _ _ _ h => h) (Or.inr ⟨by rfl, rfl⟩) (by assumption) ?_
        try simp only [Act.put, List.setIfInBounds_toArray, List.set_cons_zero, List.set_cons_succ, List.getElem_toArray, List.getElem_cons_zero, List.getElem_cons_succ]
        refine wpAnyH_take (i := 13) (v := ?_) rfl (by kernel_rfl) (by kernel_rfl) (by kernel_rfl) (fun _ _ _ h => h) (Or.inl ⟨by rfl, ?_⟩) (by assumption) ?_
        rotate_left
        · (intro w hSw; (try dsimp only at hSw); go_simp; try rfl)
        try simp only [Act.put, List.setIfInBounds_toArray, List.set_cons_zero, List.set_cons_succ, List.getElem_toArray, List.getElem_cons_zero, List.getElem_cons_succ]
        refine wpAnyH_done (by kernel_rfl) ?_ _
        have HB3 := Lib.hid (HB.out.trans (hd0.mono (HSz.out _ HB.out)))
        have HO3 := Lib.hid (HO.out.below hd0)
        have HM3 := Lib.hid (HM.out.below hd0)
        have HS3 := HSk
        clear HC6 hd0 HO HM HB HSk he hgd
        go_wp2_with fail
        go_roundw
        case rel => exact ⟨_, T, tc, k + 1, G, rfl, by go_num, by omega, HT, HO3, HM3, HAp, HS3, HB3⟩
        case measure => simp [intOf]; omega
      | false =>
        rw [hb] at he
        have HNe := Lib.hid (of_decide_eq_false hb)
        obtain ⟨hh, hhb⟩ : ∃ q, hasI dn (y1, y2, y3) = q := ⟨_, rfl⟩
        have HHb := Lib.hid hhb
        clear hb
        cases hh with
        | true =>
          have HSk : Hid (GrI f nv dn (x1, x2, x3) M G (k + 1)) := Lib.hid (HS.out.skip HX.out (fun q => q.1 ((hasI_iff _ _).1 HHb.out)))
          clear HS HX
          go_wp2_with fail
          refine wp_region_held_drew (S := (fun w' => w'.cell? ⟨gm, om + k * 3, none⟩ = some (.int .i64 y1) ∧ w'.cell? ⟨gm, om + k * 3 + 1, none⟩ = some (.int .i64 y2) ∧ w'.cell? ⟨gm, om + k * 3 + 2, none⟩ = some (.int .i64 y3) ∧ w'.cell? ⟨bx, 0, none⟩ = some (.int .i64 x1) ∧ w'.cell? ⟨bx, 1, none⟩ = some (.int .i64 x2) ∧ w'.cell? ⟨bx, 2, none⟩ = some (.int .i64 x3))) (by kernel_rfl) ?_ (fun hHeld => ?_)
          · ((first
  | exact HC6.out _ hbs
  | exact HC6.out _ hbl
  | exact HC6.out _ (Below.refl _ _)
  | exact HC6.out _ hd0
  | fail))
          refine wpAnyH_take (i := 0) (v := ?_) rfl (by kernel_rfl) (by kernel_rfl) (by kernel_rfl) (fun _ _ _ h => h) (Or.inl ⟨by rfl, ?_⟩) (by assumption) ?_
          rotate_left
          · (intro w hSw; (try dsimp only at hSw); go_simp; try rfl)
          try simp only [Act.put, List.setIfInBounds_toArray, List.set_cons_zero, List.set_cons_succ, List.getElem_toArray, List.getElem_cons_zero, List.getElem_cons_succ]
          refine wpAnyH_take (i := 1) (v := ?_) rfl (by kernel_rfl) (by kernel_rfl) (by kernel_rfl) (fun _ _ _ h => h) (Or.inl ⟨by rfl, ?_⟩) (by assumption) ?_
          rotate_left
          · (intro w hSw; (try dsimp only at hSw); go_simp; try rfl)
          try simp only [Act.put, List.setIfInBounds_toArray, List.set_cons_zero, List.set_cons_succ, List.getElem_toArray, List.getElem_cons_zero, List.getElem_cons_succ]
          refine wpAnyH_take (i := 2) (v := ?_) rfl (by kernel_rfl) (by kernel_rfl) (by kernel_rfl) (fun _ _ _ h => h) (Or.inl ⟨by rfl, ?_⟩) (by assumption) ?_
          rotate_left
          · (intro w hSw; (try dsimp only at hSw); go_simp; try rfl)
          try simp only [Act.put, List.setIfInBounds_toArray, List.set_cons_zero, List.set_cons_succ, List.getElem_toArray, List.getElem_cons_zero, List.getElem_cons_succ]
          refine wpAnyH_take (i := 3) (v := ?_) rfl (by kernel_rfl) (by kernel_rfl) (by kernel_rfl) (fun _ _ _ h => h) (Or.inl ⟨by rfl, ?_⟩) (by assumption) ?_
          rotate_left
          · (intro w hSw; (try dsimp only at hSw); go_simp; try rfl)
          try simp only [Act.put, List.setIfInBounds_toArray, List.set_cons_zero, List.set_cons_succ, List.getElem_toArray, List.getElem_cons_zero, List.getElem_cons_succ]
          refine wpAnyH_take (i := 4) (v := ?_) rfl (by kernel_rfl) (by kernel_rfl) (by kernel_rfl) (fun _ _ _ h => h) (Or.inl ⟨by rfl, ?_⟩) (by assumption) ?_
          rotate_left
          · (intro w hSw; (try dsimp only at hSw); go_simp; try rfl)
          try simp only [Act.put, List.setIfInBounds_toArray, List.set_cons_zero, List.set_cons_succ, List.getElem_toArray, List.getElem_cons_zero, List.getElem_cons_succ]
          refine wpAnyH_take (i := 5) (v := ?_) rfl (by kernel_rfl) (by kernel_rfl) (by kernel_rfl) (fun _ _ _ h => h) (Or.inl ⟨by rfl, ?_⟩) (by assumption) ?_
          rotate_left
          · (intro w hSw; (try dsimp only at hSw); go_simp; try rfl)
          try simp only [Act.put, List.setIfInBounds_toArray, List.set_cons_zero, List.set_cons_succ, List.getElem_toArray, List.getElem_cons_zero, List.getElem_cons_succ]
          refine wpAnyH_take (i := 6) (v := ?_) rfl (by kernel_rfl) (by kernel_rfl) (by kernel_rfl) (fun _ _ _ h => h) (Or.inl ⟨by rfl, ?_⟩) (by assumption) ?_
          rotate_left
          · (intro w hSw; (try dsimp only at hSw); go_simp; try rfl)
          try simp only [Act.put, List.setIfInBounds_toArray, List.set_cons_zero, List.set_cons_succ, List.getElem_toArray, List.getElem_cons_zero, List.getElem_cons_succ]
          refine wpAnyH_take (i := 7) (v := ?_) rfl (by kernel_rfl) (by kernel_rfl) (by kernel_rfl) (fun _ _ _ h => h) (Or.inl ⟨by rfl, ?_⟩) (by assumption) ?_
          rotate_left
          · (intro w hSw; (try dsimp only at hSw); go_simp; try rfl)
          try simp only [Act.put, List.setIfInBounds_toArray, List.set_cons_zero, List.set_cons_succ, List.getElem_toArray, List.getElem_cons_zero, List.getElem_cons_succ]
          refine wpAnyH_take (i := 8) (v := ?_) rfl (by kernel_rfl) (by kernel_rfl) (by kernel_rfl) (fun _ _ _ h => h) (Or.inl ⟨by rfl, ?_⟩) (by assumption) ?_
          rotate_left
          · (intro w hSw; (try dsimp only at hSw); go_simp; try rfl)
          try simp only [Act.put, List.setIfInBounds_toArray, List.set_cons_zero, List.set_cons_succ, List.getElem_toArray, List.getElem_cons_zero, List.getElem_cons_succ]
          refine wpAnyH_take (i := 9) (v := ?_) rfl (by kernel_rfl) (by kernel_rfl) (by kernel_rfl) (fun _ _ _ h => h) (Or.inl ⟨by rfl, ?_⟩) (by assumption) ?_
          rotate_left
          · (intro w hSw; (try dsimp only at hSw); go_simp; try rfl)
          try simp only [Act.put, List.setIfInBounds_toArray, List.set_cons_zero, List.set_cons_succ, List.getElem_toArray, List.getElem_cons_zero, List.getElem_cons_succ]
          refine wpAnyH_take (i := 10) (v := ?_) rfl (by kernel_rfl) (by kernel_rfl) (by kernel_rfl) (fun _ _ _ h => h) (Or.inl ⟨by rfl, ?_⟩) (by assumption) ?_
          rotate_left
          · (intro w hSw; (try dsimp only at hSw); go_simp; try rfl)
          try simp only [Act.put, List.setIfInBounds_toArray, List.set_cons_zero, List.set_cons_succ, List.getElem_toArray, List.getElem_cons_zero, List.getElem_cons_succ]
          refine wpAnyH_take (i := 11) (v := ?_) rfl (by kernel_rfl) (by kernel_rfl) (by kernel_rfl) (fun _ _ _ h => h) (Or.inl ⟨by rfl, ?_⟩) (by assumption) ?_
          rotate_left
          · (intro w hSw; (try dsimp only at hSw); go_simp; try rfl)
          try simp only [Act.put, List.setIfInBounds_toArray, List.set_cons_zero, List.set_cons_succ, List.getElem_toArray, List.getElem_cons_zero, List.getElem_cons_succ]
          refine wpAnyH_ready (rs := [12]) (by kernel_rfl) (by simp) ?_
          refine (AllReadyH.cons rfl (fun K hK => ?_) AllReadyH.nil)
          go_simp
          (go_at_call 33; refine (HHas.out y1 y2 y3 _ (HBW.out.trans (hd0.mono HBW.out.size))).mono ?_; rintro e wl ⟨rfl, hb⟩; have hbl : Below wr.heap.size wr wl := hd0.trans (hb.mono hd0.size); rw [hhb]; clear hb)
          refine hK.out _ _ ?_ (fun hHeld => ?_)
          · ((first
  | exact HC6.out _ hbs
  | exact HC6.out _ hbl
  | exact HC6.out _ (Below.refl _ _)
  | exact HC6.out _ hd0
  | fail))
          clear hK K
          try simp only [Act.put, List.setIfInBounds_toArray, List.set_cons_zero, List.set_cons_succ, List.getElem_toArray, List.getElem_cons_zero, List.getElem_cons_succ]
          refine wpAnyH_take (i := 13) (v := ?_) rfl (by kernel_rfl) (by kernel_rfl) (by kernel_rfl) (fun _ _ _ h => h) (Or.inl ⟨by rfl, ?_⟩) (by assumption) ?_
          rotate_left
          · (intro w hSw; (try dsimp only at hSw); go_simp; try rfl)
          try simp only [Act.put, List.setIfInBounds_toArray, List.set_cons_zero, List.set_cons_succ, List.getElem_toArray, List.getElem_cons_zero, List.getElem_cons_succ]
          refine wpAnyH_done (by kernel_rfl) ?_ _
          have HB3 := Lib.hid (HB.out.trans (hbl.mono (HSz.out _ HB.out)))
          have HO3 := Lib.hid (HO.out.below hbl)
          have HM3 := Lib.hid (HM.out.below hbl)
          have HS3 := HSk
          clear HC6 hd0 hbl HO HM HB HSk he hgd
          go_wp2_with fail
          go_roundw
          case rel => exact ⟨_, T, tc, k + 1, G, rfl, by go_num, by omega, HT, HO3, HM3, HAp, HS3, HB3⟩
          case measure => simp [intOf]; omega
        | false =>
          have HDn := Lib.hid ((hasI_false _ _).1 HHb.out)
          go_wp2_with fail
          refine wp_region_held_drew (S := (fun w' => w'.cell? ⟨gm, om + k * 3, none⟩ = some (.int .i64 y1) ∧ w'.cell? ⟨gm, om + k * 3 + 1, none⟩ = some (.int .i64 y2) ∧ w'.cell? ⟨gm, om + k * 3 + 2, none⟩ = some (.int .i64 y3) ∧ w'.cell? ⟨bx, 0, none⟩ = some (.int .i64 x1) ∧ w'.cell? ⟨bx, 1, none⟩ = some (.int .i64 x2) ∧ w'.cell? ⟨bx, 2, none⟩ = some (.int .i64 x3))) (by kernel_rfl) ?_ (fun hHeld => ?_)
          · ((first
  | exact HC6.out _ hbs
  | exact HC6.out _ hbl
  | exact HC6.out _ (Below.refl _ _)
  | exact HC6.out _ hd0
  | fail))
          refine wpAnyH_take (i := 0) (v := ?_) rfl (by kernel_rfl) (by kernel_rfl) (by kernel_rfl) (fun _ _ _ h => h) (Or.inl ⟨by rfl, ?_⟩) (by assumption) ?_
          rotate_left
          · (intro w hSw; (try dsimp only at hSw); go_simp; try rfl)
          try simp only [Act.put, List.setIfInBounds_toArray, List.set_cons_zero, List.set_cons_succ, List.getElem_toArray, List.getElem_cons_zero, List.getElem_cons_succ]
          refine wpAnyH_take (i := 1) (v := ?_) rfl (by kernel_rfl) (by kernel_rfl) (by kernel_rfl) (fun _ _ _ h => h) (Or.inl ⟨by rfl, ?_⟩) (by assumption) ?_
          rotate_left
          · (intro w hSw; (try dsimp only at hSw); go_simp; try rfl)
          try simp only [Act.put, List.setIfInBounds_toArray, List.set_cons_zero, List.set_cons_succ, List.getElem_toArray, List.getElem_cons_zero, List.getElem_cons_succ]
          refine wpAnyH_take (i := 2) (v := ?_) rfl (by kernel_rfl) (by kernel_rfl) (by kernel_rfl) (fun _ _ _ h => h) (Or.inl ⟨by rfl, ?_⟩) (by assumption) ?_
          rotate_left
          · (intro w hSw; (try dsimp only at hSw); go_simp; try rfl)
          try simp only [Act.put, List.setIfInBounds_toArray, List.set_cons_zero, List.set_cons_succ, List.getElem_toArray, List.getElem_cons_zero, List.getElem_cons_succ]
          refine wpAnyH_take (i := 3) (v := ?_) rfl (by kernel_rfl) (by kernel_rfl) (by kernel_rfl) (fun _ _ _ h => h) (Or.inl ⟨by rfl, ?_⟩) (by assumption) ?_
          rotate_left
          · (intro w hSw; (try dsimp only at hSw); go_simp; try rfl)
          try simp only [Act.put, List.setIfInBounds_toArray, List.set_cons_zero, List.set_cons_succ, List.getElem_toArray, List.getElem_cons_zero, List.getElem_cons_succ]
          refine wpAnyH_take (i := 4) (v := ?_) rfl (by kernel_rfl) (by kernel_rfl) (by kernel_rfl) (fun _ _ _ h => h) (Or.inl ⟨by rfl, ?_⟩) (by assumption) ?_
          rotate_left
          · (intro w hSw; (try dsimp only at hSw); go_simp; try rfl)
          try simp only [Act.put, List.setIfInBounds_toArray, List.set_cons_zero, List.set_cons_succ, List.getElem_toArray, List.getElem_cons_zero, List.getElem_cons_succ]
          refine wpAnyH_take (i := 5) (v := ?_) rfl (by kernel_rfl) (by kernel_rfl) (by kernel_rfl) (fun _ _ _ h => h) (Or.inl ⟨by rfl, ?_⟩) (by assumption) ?_
          rotate_left
          · (intro w hSw; (try dsimp only at hSw); go_simp; try rfl)
          try simp only [Act.put, List.setIfInBounds_toArray, List.set_cons_zero, List.set_cons_succ, List.getElem_toArray, List.getElem_cons_zero, List.getElem_cons_succ]
          refine wpAnyH_take (i := 6) (v := ?_) rfl (by kernel_rfl) (by kernel_rfl) (by kernel_rfl) (fun _ _ _ h => h) (Or.inl ⟨by rfl, ?_⟩) (by assumption) ?_
          rotate_left
          · (intro w hSw; (try dsimp only at hSw); go_simp; try rfl)
          try simp only [Act.put, List.setIfInBounds_toArray, List.set_cons_zero, List.set_cons_succ, List.getElem_toArray, List.getElem_cons_zero, List.getElem_cons_succ]
          refine wpAnyH_take (i := 7) (v := ?_) rfl (by kernel_rfl) (by kernel_rfl) (by kernel_rfl) (fun _ _ _ h => h) (Or.inl ⟨by rfl, ?_⟩) (by assumption) ?_
          rotate_left
          · (intro w hSw; (try dsimp only at hSw); go_simp; try rfl)
          try simp only [Act.put, List.setIfInBounds_toArray, List.set_cons_zero, List.set_cons_succ, List.getElem_toArray, List.getElem_cons_zero, List.getElem_cons_succ]
          refine wpAnyH_take (i := 8) (v := ?_) rfl (by kernel_rfl) (by kernel_rfl) (by kernel_rfl) (fun _ _ _ h => h) (Or.inl ⟨by rfl, ?_⟩) (by assumption) ?_
          rotate_left
          · (intro w hSw; (try dsimp only at hSw); go_simp; try rfl)
          try simp only [Act.put, List.setIfInBounds_toArray, List.set_cons_zero, List.set_cons_succ, List.getElem_toArray, List.getElem_cons_zero, List.getElem_cons_succ]
          refine wpAnyH_take (i := 9) (v := ?_) rfl (by kernel_rfl) (by kernel_rfl) (by kernel_rfl) (fun _ _ _ h => h) (Or.inl ⟨by rfl, ?_⟩) (by assumption) ?_
          rotate_left
          · (intro w hSw; (try dsimp only at hSw); go_simp; try rfl)
          try simp only [Act.put, List.setIfInBounds_toArray, List.set_cons_zero, List.set_cons_succ, List.getElem_toArray, List.getElem_cons_zero, List.getElem_cons_succ]
          refine wpAnyH_take (i := 10) (v := ?_) rfl (by kernel_rfl) (by kernel_rfl) (by kernel_rfl) (fun _ _ _ h => h) (Or.inl ⟨by rfl, ?_⟩) (by assumption) ?_
          rotate_left
          · (intro w hSw; (try dsimp only at hSw); go_simp; try rfl)
          try simp only [Act.put, List.setIfInBounds_toArray, List.set_cons_zero, List.set_cons_succ, List.getElem_toArray, List.getElem_cons_zero, List.getElem_cons_succ]
          refine wpAnyH_take (i := 11) (v := ?_) rfl (by kernel_rfl) (by kernel_rfl) (by kernel_rfl) (fun _ _ _ h => h) (Or.inl ⟨by rfl, ?_⟩) (by assumption) ?_
          rotate_left
          · (intro w hSw; (try dsimp only at hSw); go_simp; try rfl)
          try simp only [Act.put, List.setIfInBounds_toArray, List.set_cons_zero, List.set_cons_succ, List.getElem_toArray, List.getElem_cons_zero, List.getElem_cons_succ]
          refine wpAnyH_ready (rs := [12]) (by kernel_rfl) (by simp) ?_
          refine (AllReadyH.cons rfl (fun K hK => ?_) AllReadyH.nil)
          go_simp
          (go_at_call 33; refine (HHas.out y1 y2 y3 _ (HBW.out.trans (hd0.mono HBW.out.size))).mono ?_; rintro e wl ⟨rfl, hb⟩; have hbl : Below wr.heap.size wr wl := hd0.trans (hb.mono hd0.size); rw [hhb]; clear hb)
          refine hK.out _ _ ?_ (fun hHeld => ?_)
          · ((first
  | exact HC6.out _ hbs
  | exact HC6.out _ hbl
  | exact HC6.out _ (Below.refl _ _)
  | exact HC6.out _ hd0
  | fail))
          clear hK K
          try simp only [Act.put, List.setIfInBounds_toArray, List.set_cons_zero, List.set_cons_succ, List.getElem_toArray, List.getElem_cons_zero, List.getElem_cons_succ]
          refine wpAnyH_take (i := 13) (v := ?_) rfl (by kernel_rfl) (by kernel_rfl) (by kernel_rfl) (fun _ _ _ h => h) (Or.inl ⟨by rfl, ?_⟩) (by assumption) ?_
          rotate_left
          · (intro w hSw; (try dsimp only at hSw); go_simp; try rfl)
          try simp only [Act.put, List.setIfInBounds_toArray, List.set_cons_zero, List.set_cons_succ, List.getElem_toArray, List.getElem_cons_zero, List.getElem_cons_succ]
          refine wpAnyH_done (by kernel_rfl) ?_ _
          have HB3 := Lib.hid (HB.out.trans (hbl.mono (HSz.out _ HB.out)))
          have HO3 := Lib.hid (HO.out.below hbl)
          have HM3 := Lib.hid (HM.out.below hbl)
          have HC7 : Hid (∀ wq, Below wl.heap.size wl wq → wq.cell? ⟨gm, om + k * 3, none⟩ = some (.int .i64 y1) ∧ wq.cell? ⟨gm, om + k * 3 + 1, none⟩ = some (.int .i64 y2) ∧ wq.cell? ⟨gm, om + k * 3 + 2, none⟩ = some (.int .i64 y3) ∧ wq.cell? ⟨bx, 0, none⟩ = some (.int .i64 x1) ∧ wq.cell? ⟨bx, 1, none⟩ = some (.int .i64 x2) ∧ wq.cell? ⟨bx, 2, none⟩ = some (.int .i64 x3)) := Lib.hid fun wq hq => HC6.out _ (hbl.trans (hq.mono hbl.size))
          have HBWl : Hid (Below w.heap.size w wl) := Lib.hid (HBW.out.trans (hbl.mono HBW.out.size))
          have hd1 : Below wl.heap.size wl wl.drew := (Below.refl wl.heap.size wl).drew
          clear HC6 hd0 hbl HO HM HB he hgd HBW
          go_wp2_with fail
          refine wp_region_held_drew (S := (fun w' => w'.cell? ⟨gm, om + k * 3, none⟩ = some (.int .i64 y1) ∧ w'.cell? ⟨gm, om + k * 3 + 1, none⟩ = some (.int .i64 y2) ∧ w'.cell? ⟨gm, om + k * 3 + 2, none⟩ = some (.int .i64 y3) ∧ w'.cell? ⟨bx, 0, none⟩ = some (.int .i64 x1) ∧ w'.cell? ⟨bx, 1, none⟩ = some (.int .i64 x2) ∧ w'.cell? ⟨bx, 2, none⟩ = some (.int .i64 x3))) (by kernel_rfl) ?_ (fun hHeld => ?_)
          · ((first
            | exact HC7.out _ hbn
            | exact HC7.out _ hbm
            | exact HC7.out _ (Below.refl _ _)
            | exact HC7.out _ hd1
            | fail))
          refine wpAnyH_take (i := 0) (v := ?_) rfl (by kernel_rfl) (by kernel_rfl) (by kernel_rfl) (fun _ _ _ h => h) (Or.inl ⟨by rfl, ?_⟩) (by assumption) ?_
          rotate_left
          · (intro w hSw; (try dsimp only at hSw); go_simp; try rfl)
          try simp only [Act.put, List.setIfInBounds_toArray, List.set_cons_zero, List.set_cons_succ, List.getElem_toArray, List.getElem_cons_zero, List.getElem_cons_succ]
          refine wpAnyH_take (i := 1) (v := ?_) rfl (by kernel_rfl) (by kernel_rfl) (by kernel_rfl) (fun _ _ _ h => h) (Or.inl ⟨by rfl, ?_⟩) (by assumption) ?_
          rotate_left
          · (intro w hSw; (try dsimp only at hSw); go_simp; try rfl)
          try simp only [Act.put, List.setIfInBounds_toArray, List.set_cons_zero, List.set_cons_succ, List.getElem_toArray, List.getElem_cons_zero, List.getElem_cons_succ]
          refine wpAnyH_take (i := 2) (v := ?_) rfl (by kernel_rfl) (by kernel_rfl) (by kernel_rfl) (fun _ _ _ h => h) (Or.inl ⟨by rfl, ?_⟩) (by assumption) ?_
          rotate_left
          · (intro w hSw; (try dsimp only at hSw); go_simp; try rfl)
          try simp only [Act.put, List.setIfInBounds_toArray, List.set_cons_zero, List.set_cons_succ, List.getElem_toArray, List.getElem_cons_zero, List.getElem_cons_succ]
          refine wpAnyH_take (i := 3) (v := ?_) rfl (by kernel_rfl) (by kernel_rfl) (by kernel_rfl) (fun _ _ _ h => h) (Or.inl ⟨by rfl, ?_⟩) (by assumption) ?_
          rotate_left
          · (intro w hSw; (try dsimp only at hSw); go_simp; try rfl)
          try simp only [Act.put, List.setIfInBounds_toArray, List.set_cons_zero, List.set_cons_succ, List.getElem_toArray, List.getElem_cons_zero, List.getElem_cons_succ]
          refine wpAnyH_take (i := 4) (v := ?_) rfl (by kernel_rfl) (by kernel_rfl) (by kernel_rfl) (fun _ _ _ h => h) (Or.inl ⟨by rfl, ?_⟩) (by assumption) ?_
          rotate_left
          · (intro w hSw; (try dsimp only at hSw); go_simp; try rfl)
          try simp only [Act.put, List.setIfInBounds_toArray, List.set_cons_zero, List.set_cons_succ, List.getElem_toArray, List.getElem_cons_zero, List.getElem_cons_succ]
          refine wpAnyH_take (i := 5) (v := ?_) rfl (by kernel_rfl) (by kernel_rfl) (by kernel_rfl) (fun _ _ _ h => h) (Or.inl ⟨by rfl, ?_⟩) (by assumption) ?_
          rotate_left
          · (intro w hSw; (try dsimp only at hSw); go_simp; try rfl)
          try simp only [Act.put, List.setIfInBounds_toArray, List.set_cons_zero, List.set_cons_succ, List.getElem_toArray, List.getElem_cons_zero, List.getElem_cons_succ]
          refine wpAnyH_take (i := 7) (v := ?_) rfl (by kernel_rfl) (by kernel_rfl) (by kernel_rfl) (fun _ _ _ h => h) (Or.inl ⟨by rfl, ?_⟩) (by assumption) ?_
          rotate_left
          · (intro w hSw; (try dsimp only at hSw); go_simp; try rfl)
          try simp only [Act.put, List.setIfInBounds_toArray, List.set_cons_zero, List.set_cons_succ, List.getElem_toArray, List.getElem_cons_zero, List.getElem_cons_succ]
          refine wpAnyH_ready (rs := [6]) (by kernel_rfl) (by simp) ?_
          refine (AllReadyH.cons rfl (fun K hK => ?_) AllReadyH.nil)
          go_simp
          (first
            | (go_at_call 33
               refine (rhas_any _ _ x1 x2 x3 _ HOl.out.rd (by have := HLl.out.few; omega)).mono ?_
               rintro e wn ⟨rfl, hb⟩
               have hbn : Below wl.heap.size wl wn := hbm.trans (hb.mono hbm.size)
               obtain ⟨qb, hqb⟩ : ∃ q, hasI Ml (x1, x2, x3) = q := ⟨_, rfl⟩
               rw [hqb]
               have HQb := Lib.hid hqb
               clear hb hqb)
            | (go_at_call 39
               refine (HLead.out y1 y2 y3 _ (HBWl.out.trans (hd1.mono HBWl.out.size))).mono ?_
               rintro e wm ⟨Ml, v7, he, hM, ho, hb⟩
               rw [he.out]
               obtain ⟨am7, cm7, e7⟩ := ho.slice
               subst e7
               have hbm : Below wl.heap.size wl wm := hd1.trans (hb.mono hd1.size)
               have HOl := Lib.hid ho
               have HLl := hM
               obtain ⟨nl, hnl⟩ : ∃ q, Ml.length = q := ⟨_, rfl⟩
               rw [hnl] at HOl ⊢
               clear he hM ho hb hnl)
            | fail)
          refine hK.out _ _ ?_ (fun hHeld => ?_)
          · ((first
            | exact HC7.out _ hbn
            | exact HC7.out _ hbm
            | exact HC7.out _ (Below.refl _ _)
            | exact HC7.out _ hd1
            | fail))
          clear hK K
          try simp only [Act.put, List.setIfInBounds_toArray, List.set_cons_zero, List.set_cons_succ, List.getElem_toArray, List.getElem_cons_zero, List.getElem_cons_succ]
          refine wpAnyH_ready (rs := [8]) (by kernel_rfl) (by simp) ?_
          refine (AllReadyH.cons rfl (fun K hK => ?_) AllReadyH.nil)
          go_simp
          (first
            | (go_at_call 33
               refine (rhas_any _ _ x1 x2 x3 _ HOl.out.rd (by have := HLl.out.few; omega)).mono ?_
               rintro e wn ⟨rfl, hb⟩
               have hbn : Below wl.heap.size wl wn := hbm.trans (hb.mono hbm.size)
               obtain ⟨qb, hqb⟩ : ∃ q, hasI Ml (x1, x2, x3) = q := ⟨_, rfl⟩
               rw [hqb]
               have HQb := Lib.hid hqb
               clear hb hqb)
            | (go_at_call 39
               refine (HLead.out y1 y2 y3 _ (HBWl.out.trans (hd1.mono HBWl.out.size))).mono ?_
               rintro e wm ⟨Ml, v7, he, hM, ho, hb⟩
               rw [he.out]
               obtain ⟨am7, cm7, e7⟩ := ho.slice
               subst e7
               have hbm : Below wl.heap.size wl wm := hd1.trans (hb.mono hd1.size)
               have HOl := Lib.hid ho
               have HLl := hM
               obtain ⟨nl, hnl⟩ : ∃ q, Ml.length = q := ⟨_, rfl⟩
               rw [hnl] at HOl ⊢
               clear he hM ho hb hnl)
            | fail)
          refine hK.out _ _ ?_ (fun hHeld => ?_)
          · ((first
            | exact HC7.out _ hbn
            | exact HC7.out _ hbm
            | exact HC7.out _ (Below.refl _ _)
            | exact HC7.out _ hd1
            | fail))
          clear hK K
          try simp only [Act.put, List.setIfInBounds_toArray, List.set_cons_zero, List.set_cons_succ, List.getElem_toArray, List.getElem_cons_zero, List.getElem_cons_succ]
          refine wpAnyH_done (by kernel_rfl) ?_ _
          have HB5 := Lib.hid (HB3.out.trans (hbn.mono (HSz.out _ HB3.out)))
          have HO5 := Lib.hid (HO3.out.below hbn)
          have HM5 := Lib.hid (HM3.out.below hbn)
          have hx5 := HC7.out _ hbn
          cases qb with
          | false =>
            have HS5 : Hid (GrI f nv dn (x1, x2, x3) M G (k + 1)) := Lib.hid (HS.out.skip HX.out (fun q => by have := (hasI_false _ _).1 HQb.out; exact this ((HLl.out.mem _).2 q.2)))
            clear HC7 hd1 hbm hbn HO3 HM3 HB3 HOl HLl HQb hx5 HS HBWl
            go_wp2_with fail
            go_roundw
            case rel => exact ⟨_, T, tc, k + 1, G, rfl, by go_num, by omega, HT, HO5, HM5, HAp, HS5, HB5⟩
            case measure => simp [intOf]; omega
          | true =>
            have HS5 : Hid (GrI f nv dn (x1, x2, x3) M (G ++ [(y1, y2, y3)]) (k + 1)) := Lib.hid (HS.out.put HX.out HNe.out HDn.out ((HLl.out.mem _).1 ((hasI_iff _ _).1 HQb.out)))
            obtain ⟨q1, q2, q3, -, -, -⟩ := hx5
            have HL6 : Hid (G.length + 1 ≤ 1000000) := Lib.hid (by have := HS.out.len; have := HT.out; have := HNm.out; omega)
            have HT1 : Hid ((G ++ [(y1, y2, y3)]).length = T + 1) := Lib.hid (by rw [List.length_append, HT.out]; rfl)
            have hz6 := HB5.out.size
            clear HC7 hd1 hbm hbn HO3 HM3 HB3 HOl HLl HQb HS HBWl
            have HAq : Hid (∀ q, (Value.slice ta T tc).ownBlock = some q → q < wn.heap.size) := Lib.hid (fun q hq => (HO5.out.blk q hq).1)
            have HMq : Hid (∀ q, (Value.slice (some ⟨gm, om, none⟩) nm cm).ownBlock = some q → q < wn.heap.size) := Lib.hid (fun q hq => (HM5.out.blk q hq).1)
            have hzn := HSz.out _ HB5.out
            go_wp2_with (refine IK.app2 rfl _ _ rfl (w.heap.size + 1) (.slice ta T tc) G rfl ?own _ 1 [(y1, y2, y3)] rfl ?rd (by simp) HL6.out ?bs ?_)
            case own => exact HO5.out.below ((Below.refl _ _).alloc (Nat.le_refl _) _)
            case rd => exact IK.rd_boxAt (y1, y2, y3) _ 1 _ _ (by simp)
            case bs => first | omega | (simp; omega) | fail
            intro v7 w7 ho hb hg hnx
            have HM7 : Hid (IK.Own w7 (w.heap.size + 1) (.slice (some ⟨gm, om, none⟩) nm cm) M) := Lib.hid ((HM5.out.below ((Below.refl _ _).alloc (Nat.le_refl _) _)).keepB fun q hq => hg.block q (by have := HMq.out q hq; simp; omega) (fun e => HAp.out q e.symm hq))
            have HA7 : Hid (∀ q, v7.ownBlock = some q → (Value.slice (some ⟨gm, om, none⟩) nm cm).ownBlock ≠ some q) := Lib.hid (fun q hq e => by
              rcases hnx q hq with r | r
              · exact HAp.out q r e
              · have := HMq.out q e
                simp at r
                omega)
            have HO7 := Lib.hid ho
            have HB7 : Hid (Below (w.heap.size + 1) W0 w7) := Lib.hid ((HB5.out.alloc hzn _).trans hb)
            clear ho hb hg hnx HAp HAq HMq HB5 HO5 HM5 hzn
            obtain ⟨a7, c7, e7⟩ := HO7.out.slice
            rw [HT1.out] at e7
            subst e7
            go_wp2_with fail
            go_roundw
            case rel => exact ⟨a7, T + 1, c7, k + 1, _, rfl, by go_num, by omega, HT1, HO7, HM7, HA7, HS5, HB7⟩
            case measure => simp [intOf]; omega
    · obtain rfl : k = nm := by omega
      have kk1 : ¬ (k : Int) < (k : Int) := by omega
      have kk2 : decide ((k : Int) < (k : Int)) = false := decide_eq_false kk1
      have kk3 : decide (k < k) = false := decide_eq_false (by omega)
      have HE : Hid (GrpIs nv dn (x1, x2, x3) G) := Lib.hid ⟨HS.out.nd, (fun y => by
        rw [HS.out.in' y, List.take_of_length_le (by rw [HNm.out]; exact Nat.le_refl _), HLM.out.mem y]
        constructor
        · rintro (q | ⟨q1, q2, q3⟩)
          · exact .inl q
          · exact .inr ⟨q2, q1, q3⟩
        · rintro (q | ⟨q1, q2, q3⟩)
          · exact .inl q
          · exact .inr ⟨q2, q1, q3⟩), by have := HS.out.len; omega⟩
      clear HS
      go_wp2
      go_ret
      exact ⟨G, _, Lib.hid rfl, HE.out, HO.out.base (Nat.le_succ _), HBW.out⟩
end Go.Proofs.Ytlckjpjcfalfnaa
namespace Go.Proofs.Ytlckjpjcfalfnaa
open Go.RowKit Go.Sort
open Go.WideMaps
set_option linter.unusedSimpArgs false
set_option linter.unusedVariables false
set_option maxRecDepth 100000

theorem sq_of {nv : List NV} (h : (nv.map (·.d.id)).Nodup) {n : NV} (hn : n ∈ nv) : sqOf (webL nv) n.d.id = n.d.sq := by
  unfold sqOf ndOf
  rw [webL_get h hn]
  rfl
/-- The t-th is no greater than any of the first k. -/
structure Mn (lt : I3 → I3 → Bool) (L : List I3) (k t : Nat) : Prop where
  in' : t < k
  le : k ≤ L.length
  mn : ∀ (i : Nat) (x z : I3), i < k → L[i]? = some x → L[t]? = some z → lt x z = false
theorem Mn.down {lt : I3 → I3 → Bool} (hs : SWO lt) {L : List I3} {k t : Nat} (h : Mn lt L k t) {y z : I3} (hl : lt y z = true) (hy : L[k]? = some y) (hz : L[t]? = some z) : Mn lt L (k + 1) k := by
  refine ⟨by omega, (List.getElem?_eq_some_iff.1 hy).1, fun i x u hi hx hu => ?_⟩
  rw [hy] at hu
  obtain rfl := Option.some.inj hu
  by_cases e : i = k
  · subst e
    rw [hy] at hx
    obtain rfl := Option.some.inj hx
    exact hs.irrefl _
  · have q := h.mn i x z (by omega) hx hz
    cases r : lt x y with
    | false => rfl
    | true => rw [hs.trans x y z r hl] at q; cases q
theorem Mn.stay {lt : I3 → I3 → Bool} {L : List I3} {k t : Nat} (h : Mn lt L k t) {y z : I3} (hl : lt y z = false) (hy : L[k]? = some y) (hz : L[t]? = some z) : Mn lt L (k + 1) t := by
  refine ⟨by have := h.in'; omega, (List.getElem?_eq_some_iff.1 hy).1, fun i x u hi hx hu => ?_⟩
  by_cases e : i = k
  · subst e
    rw [hy] at hx
    obtain rfl := Option.some.inj hx
    rw [hz] at hu
    obtain rfl := Option.some.inj hu
    exact hl
  · exact h.mn i x u (by omega) hx hu
/-- What was put in order, and what is left. -/
structure SrI (lt : I3 → I3 → Bool) (G S L : List I3) : Prop where
  nd : L.Nodup
  mem : ∀ x, x ∈ G ↔ x ∈ S ∨ x ∈ L
  srt : S.Pairwise fun x y => lt x y = true
  low : ∀ s ∈ S, ∀ x ∈ L, lt s x = true
  len : S.length + L.length ≤ G.length
theorem les_len {L : List I3} {z : I3} (hn : L.Nodup) (hz : z ∈ L) : (lesI L [z]).length + 1 ≤ L.length := by
  have h1 : (lesI L [z]).Nodup := (clnI_rises _).nodup
  have h2 := len_sub (k := L.erase z) h1 fun x hx => by
    have q := (mem_lesI L [z] x).1 hx
    exact (List.mem_erase_of_ne (fun e => q.2 (by simp [e]))).2 q.1
  rw [List.length_erase_of_mem hz] at h2
  have h3 : 0 < L.length := List.length_pos_of_mem hz
  omega
theorem SrI.step {lt : I3 → I3 → Bool} (ht : ∀ x y, lt x y = false → lt y x = false → x = y) {G S L : List I3} (h : SrI lt G S L) {t : Nat} {z : I3} (hm : Mn lt L L.length t) (hz : L[t]? = some z) : SrI lt G (S ++ [z]) (lesI L [z]) := by
  have hzL : z ∈ L := List.mem_iff_getElem?.2 ⟨t, hz⟩
  have hlt : ∀ x ∈ L, x ≠ z → lt z x = true := fun x hx hne => by
    obtain ⟨i, hi⟩ := List.mem_iff_getElem?.1 hx
    have q := hm.mn i x z (List.getElem?_eq_some_iff.1 hi).1 hi hz
    cases r : lt z x with
    | true => rfl
    | false => exact absurd (ht x z q r) hne
  refine ⟨(clnI_rises _).nodup, fun x => ?_, ?_, fun s hs x hx => ?_, ?_⟩
  · rw [h.mem x, List.mem_append, mem_lesI]
    constructor
    · rintro (q | q)
      · exact .inl (.inl q)
      · by_cases e : x = z
        · exact .inl (.inr (by simp [e]))
        · exact .inr ⟨q, by simpa using e⟩
    · rintro ((q | q) | q)
      · exact .inl q
      · simp at q
        subst q
        exact .inr hzL
      · exact .inr q.1
  · rw [List.pairwise_append]
    refine ⟨h.srt, by simp, fun a ha b hb => ?_⟩
    simp at hb
    subst hb
    exact h.low a ha _ hzL
  · have q := (mem_lesI L [z] x).1 hx
    rcases List.mem_append.1 hs with r | r
    · exact h.low s r x q.1
    · simp at r
      subst r
      exact hlt x q.1 (by simpa using q.2)
  · have := les_len h.nd hzL
    have := h.len
    rw [List.length_append]
    simp
    omega
/-- A group in its order. -/
structure SrtIs (nv : List NV) (G R : List I3) : Prop where
  mem : ∀ x, x ∈ R ↔ x ∈ G
  srt : R.Pairwise fun x y => ltG (webL nv) x y = true
  len : R.length ≤ G.length
set_option maxHeartbeats 16000000 in
theorem sorted12_any {w : World} {v vd vg : Value} {nv : List NV} {dn G : List I3} (h : GrIn w v vd nv dn) (hg : IK.Rd w vg G) (hnd : G.Nodup) (hin : ∀ x ∈ G, x ∈ idsN nv) (hlen : G.length ≤ 200) :
    Calls Try.prog 36 #[v, vg] w (fun e w' => ∃ R v', Hid (e = .returned v') ∧ Hid (SrtIs nv G R) ∧ IK.Own w' w.heap.size v' R ∧ Below w.heap.size w w') := by
  have HFind : Hid (∀ x1 x2 x3 W, Below w.heap.size w W → Calls Try.prog 35 #[v, .agg #[.int .i64 x1, .int .i64 x2, .int .i64 x3]] W fun e w' => ∃ k : Int, Hid (e = .returned (.int .i64 k)) ∧ Hid (FndIs nv (x1, x2, x3) k) ∧ Below W.heap.size W w') := Lib.hid fun x1 x2 x3 W hW => rfindN_any (h.row.below hW) (by have := h.few.few; omega) x1 x2 x3
  obtain ⟨av, cv, hv, -, -⟩ := h.row.el
  obtain ⟨ag, cg, hgg⟩ := hg.slice
  subst hv
  subst hgg
  obtain ⟨N, hN⟩ : ∃ N, nv.length = N := ⟨_, rfl⟩
  obtain ⟨Ng, hNg⟩ : ∃ N, G.length = N := ⟨_, rfl⟩
  have HN := Lib.hid hN
  rw [hN] at h HFind ⊢
  rw [hNg] at hg ⊢
  have HNg := Lib.hid hNg
  have HG := Lib.hid h
  have HRg := Lib.hid hg
  have HIn := Lib.hid hin
  have HL0 : Hid (([] : List I3).length + G.length ≤ 1000000) := Lib.hid (by simp; omega)
  have HI0 : Hid (SrI (ltG (webL nv)) G [] G) := Lib.hid ⟨hnd, (fun x => by simp), .nil, (fun s hs => by cases hs), by simp⟩
  have HSwo := Lib.hid (ltG_swo (webL nv))
  have HTot : Hid (∀ x y, ltG (webL nv) x y = false → ltG (webL nv) y x = false → x = y) := Lib.hid (ltG_total (webL nv))
  obtain ⟨lt, hlt0⟩ : ∃ q, ltG (webL nv) = q := ⟨_, rfl⟩
  have HLtD := Lib.hid hlt0
  rw [hlt0] at HI0 HSwo HTot
  have hng200 : Ng ≤ 200 := by omega
  clear h hN hg hNg hnd hin hlen hlt0
  go_enter Try.func36, Try.ntmps36
  go_wp2_with (first
    | (refine IK.app (by kernel_rfl) (.tmp 11) (.tmp 12) rfl w.heap.size (.slice none 0 0) [] rfl (Knd.Own.nil _ _) (.slice ag Ng cg) G rfl HRg.out HL0.out (Nat.le_refl _) ?_
       intro v1 w1 ho hb hgr hn
       rw [List.nil_append] at ho
       obtain ⟨a1, c1, e1⟩ := ho.slice
       rw [HNg.out] at e1
       subst e1
       have HO1 := Lib.hid ho
       have HB1 := Lib.hid hb
       clear ho hb hgr hn)
    | fail)
  go_loopw [5, 6] (fun s l wr => ∃ (sa : Option Addr) (ns cs : Nat) (la : Option Addr) (nl cl : Nat) (S L : List I3), s = .slice sa ns cs ∧ l = .slice la nl cl ∧ Hid (S.length = ns) ∧ Hid (L.length = nl) ∧ Hid (IK.Own wr w.heap.size (.slice sa ns cs) S) ∧ Hid (IK.Own wr w.heap.size (.slice la nl cl) L) ∧ Hid (∀ q, (Value.slice sa ns cs).ownBlock = some q → (Value.slice la nl cl).ownBlock ≠ some q) ∧ Hid (SrI lt G S L) ∧ Hid (Below w.heap.size w wr)) (fun _ l _ => slen l)
  case atStart => exact ⟨none, 0, 0, _, Ng, _, [], G, rfl, rfl, Lib.hid rfl, HNg, Lib.hid (Knd.Own.nil _ _), HO1, Lib.hid (fun q hq => by cases hq), HI0, HB1⟩
  case round =>
    clear HO1 HB1 HI0
    obtain ⟨sa, ns, cs, la, nl, cl, S, L, rfl, rfl, HNs, HNl, HO, HL, HAp, HI, HB⟩ := hrel
    have hsl : ns + nl ≤ 200 := by have := HI.out.len; have := HNs.out; have := HNl.out; have := HNg.out; omega
    by_cases hl0 : 0 < nl
    · have l1 : (0 : Int) < (nl : Int) := by omega
      have l2 : decide ((0 : Int) < (nl : Int)) = true := decide_eq_true l1
      have l3 : decide (0 < nl) = true := decide_eq_true hl0
      have HM0 : Hid (Mn lt L 1 0) := Lib.hid ⟨by omega, by rw [HNl.out]; exact hl0, fun i x z hi hx hz => by
        obtain rfl : i = 0 := by omega
        rw [hz] at hx
        obtain rfl := Option.some.inj hx
        exact HSwo.out.irrefl _⟩
      go_wp2_with fail
      go_loopw [7, 8] (fun at' i wr => ∃ (k t : Nat), at' = .int .i64 t ∧ i = .int .i64 k ∧ k ≤ nl ∧ t < k ∧ Hid (IK.Own wr w.heap.size (.slice sa ns cs) S) ∧ Hid (IK.Own wr w.heap.size (.slice la nl cl) L) ∧ Hid (Mn lt L k t) ∧ Hid (Below w.heap.size w wr)) (fun _ i _ => nl - (intOf i).toNat)
      case atStart => exact ⟨1, 0, rfl, rfl, by omega, by omega, HO, HL, HM0, HB⟩
      case round =>
        clear HO HL HM0 HB
        obtain ⟨k, t, rfl, rfl, hk, htk, HO, HL, HMin, HB⟩ := hrel
        by_cases hkl : k < nl
        · have knl1 : (k : Int) < (nl : Int) := by omega
          have knl2 : decide ((k : Int) < (nl : Int)) = true := decide_eq_true knl1
          have knl3 : decide (k < nl) = true := decide_eq_true (by omega)
          have htl : t < nl := by omega
          have tnl1 : (t : Int) < (nl : Int) := by omega
          have tnl2 : decide ((t : Int) < (nl : Int)) = true := decide_eq_true tnl1
          have tnl3 : decide (t < nl) = true := decide_eq_true (by omega)
          obtain ⟨e0, gl, ol, hda, hgl, q1, q2, q3, hjl⟩ := idCell HL.out.rd k hkl
          obtain ⟨-, gl2, ol2, hda2, -, p1, p2, p3, hjt⟩ := idCell HL.out.rd t htl
          obtain ⟨⟨y1, y2, y3⟩, hY⟩ : ∃ X, L.getD k (0, 0, 0) = X := ⟨_, rfl⟩
          obtain ⟨⟨z1, z2, z3⟩, hZ⟩ : ∃ X, L.getD t (0, 0, 0) = X := ⟨_, rfl⟩
          rw [hY] at q1 q2 q3
          rw [hZ] at p1 p2 p3
          have HXk : Hid (L[k]? = some (y1, y2, y3)) := Lib.hid (by rw [← hY]; simp [List.getD, hjl])
          have HXt : Hid (L[t]? = some (z1, z2, z3)) := Lib.hid (by rw [← hZ]; simp [List.getD, hjt])
          have HIny : Hid ((y1, y2, y3) ∈ idsN nv) := Lib.hid (HIn.out _ ((HI.out.mem _).2 (.inr (List.mem_iff_getElem?.2 ⟨k, HXk.out⟩))))
          have HInz : Hid ((z1, z2, z3) ∈ idsN nv) := Lib.hid (HIn.out _ ((HI.out.mem _).2 (.inr (List.mem_iff_getElem?.2 ⟨t, HXt.out⟩))))
          subst hda
          obtain ⟨rfl, rfl⟩ : gl2 = gl ∧ ol2 = ol := by simpa using hda2.symm
          have HC11 : Hid (∀ wq, Below wr.heap.size wr wq → wq.cell? ⟨gl2, ol2 + k * 3, none⟩ = some (.int .i64 y1) ∧ wq.cell? ⟨gl2, ol2 + k * 3 + 1, none⟩ = some (.int .i64 y2) ∧ wq.cell? ⟨gl2, ol2 + k * 3 + 2, none⟩ = some (.int .i64 y3) ∧ wq.cell? ⟨gl2, ol2 + t * 3, none⟩ = some (.int .i64 z1) ∧ wq.cell? ⟨gl2, ol2 + t * 3 + 1, none⟩ = some (.int .i64 z2) ∧ wq.cell? ⟨gl2, ol2 + t * 3 + 2, none⟩ = some (.int .i64 z3)) := Lib.hid fun wq hq => ⟨(hq.cell (p := ⟨gl2, ol2 + k * 3, none⟩) hgl).trans q1, (hq.cell (p := ⟨gl2, ol2 + k * 3 + 1, none⟩) hgl).trans q2, (hq.cell (p := ⟨gl2, ol2 + k * 3 + 2, none⟩) hgl).trans q3, (hq.cell (p := ⟨gl2, ol2 + t * 3, none⟩) hgl).trans p1, (hq.cell (p := ⟨gl2, ol2 + t * 3 + 1, none⟩) hgl).trans p2, (hq.cell (p := ⟨gl2, ol2 + t * 3 + 2, none⟩) hgl).trans p3⟩
          clear e0 hY hZ hjl hjt hda2 hgl
          go_wp2_with fail
          refine (HFind.out y1 y2 y3 wr HB.out).mono ?_
          rintro e w4 ⟨kx, he, hfx, hb⟩
          rw [he.out]
          have HBw4 := Lib.hid (HB.out.trans (hb.mono HB.out.size))
          have HWw4 : Hid (Below wr.heap.size wr w4) := Lib.hid hb
          have HFx := hfx.out
          obtain ⟨jy, xy, hjNy, rfl, hxj, hxi, hxm, hst⟩ : ∃ (j : Nat) (n : NV), j < nv.length ∧ kx = (j : Int) ∧ nv[j]? = some n ∧ n.d.id = (y1, y2, y3) ∧ n ∈ nv ∧ sqOf (webL nv) (y1, y2, y3) = n.d.sq := by
            rcases fnd_cases HG.out.one HFx with ⟨-, hni, -⟩ | ⟨j, x, r1, r2, r3, r4, r5, -⟩
            · exact absurd (HIny.out) hni
            · exact ⟨j, x, r1, r2, r3, r4, r5, by rw [← r4]; exact sq_of HG.out.one r5⟩
          rw [HN.out] at hjNy
          obtain ⟨x', gy, offy, hx', hay, -, -, -, -, d3, -, -⟩ := HG.out.row.cells HBw4.out jy hjNy
          rw [hxj] at hx'
          obtain rfl := Option.some.inj hx'
          obtain ⟨sy, hsy⟩ : ∃ q, xy.d.sq = q := ⟨_, rfl⟩
          rw [hsy] at d3 hst
          have HSy := Lib.hid hst
          subst hay
          have jyN1 : (jy : Int) < (N : Int) := by omega
          have jyN2 : decide ((jy : Int) < (N : Int)) = true := decide_eq_true jyN1
          have jyN3 : decide (jy < N) = true := decide_eq_true (by omega)
          obtain ⟨q1, q2, q3, p1, p2, p3⟩ := HC11.out _ HWw4.out
          clear he hb hfx HFx hxj hxi hxm hst hjNy hsy
          obtain ⟨q1, q2, q3, p1, p2, p3⟩ := HC11.out _ HWw4.out
          go_wp2_with fail
          refine (HFind.out z1 z2 z3 w4 HBw4.out).mono ?_
          rintro e w5 ⟨kx, he, hfx, hb⟩
          rw [he.out]
          have HBw5 := Lib.hid (HBw4.out.trans (hb.mono HBw4.out.size))
          have HWw5 : Hid (Below wr.heap.size wr w5) := Lib.hid (HWw4.out.trans (hb.mono HWw4.out.size))
          have HFx := hfx.out
          obtain ⟨jz, xz, hjNz, rfl, hxj, hxi, hxm, hst⟩ : ∃ (j : Nat) (n : NV), j < nv.length ∧ kx = (j : Int) ∧ nv[j]? = some n ∧ n.d.id = (z1, z2, z3) ∧ n ∈ nv ∧ sqOf (webL nv) (z1, z2, z3) = n.d.sq := by
            rcases fnd_cases HG.out.one HFx with ⟨-, hni, -⟩ | ⟨j, x, r1, r2, r3, r4, r5, -⟩
            · exact absurd (HInz.out) hni
            · exact ⟨j, x, r1, r2, r3, r4, r5, by rw [← r4]; exact sq_of HG.out.one r5⟩
          rw [HN.out] at hjNz
          obtain ⟨x', gz, offz, hx', haz, -, -, -, -, d3, -, -⟩ := HG.out.row.cells HBw5.out jz hjNz
          rw [hxj] at hx'
          obtain rfl := Option.some.inj hx'
          obtain ⟨sz, hsz⟩ : ∃ q, xz.d.sq = q := ⟨_, rfl⟩
          rw [hsz] at d3 hst
          have HSz := Lib.hid hst
          obtain ⟨rfl, rfl⟩ : gz = gy ∧ offz = offy := by simpa using haz.symm
          clear haz
          have jzN1 : (jz : Int) < (N : Int) := by omega
          have jzN2 : decide ((jz : Int) < (N : Int)) = true := decide_eq_true jzN1
          have jzN3 : decide (jz < N) = true := decide_eq_true (by omega)
          obtain ⟨q1, q2, q3, p1, p2, p3⟩ := HC11.out _ HWw5.out
          clear he hb hfx HFx hxj hxi hxm hst hjNz hsz
          go_wp2_with fail
          have HL5 := Lib.hid (HL.out.below HWw5.out)
          have HO5 := Lib.hid (HO.out.below HWw5.out)
          have HB5 := HBw5
          have HC11 : Hid (∀ wq, Below w5.heap.size w5 wq → wq.cell? ⟨gl2, ol2 + k * 3, none⟩ = some (.int .i64 y1) ∧ wq.cell? ⟨gl2, ol2 + k * 3 + 1, none⟩ = some (.int .i64 y2) ∧ wq.cell? ⟨gl2, ol2 + k * 3 + 2, none⟩ = some (.int .i64 y3) ∧ wq.cell? ⟨gl2, ol2 + t * 3, none⟩ = some (.int .i64 z1) ∧ wq.cell? ⟨gl2, ol2 + t * 3 + 1, none⟩ = some (.int .i64 z2) ∧ wq.cell? ⟨gl2, ol2 + t * 3 + 2, none⟩ = some (.int .i64 z3)) := Lib.hid fun wq hq => HC11.out wq (HWw5.out.trans (hq.mono HWw5.out.size))
          have hd0 : Below w5.heap.size w5 w5.drew := (Below.refl w5.heap.size w5).drew
          clear HL HO HB HBw4 HWw4 HWw5 HIny HInz jyN1 jyN2 jyN3 jzN1 jzN2 jzN3 q1 q2 q3 p1 p2 p3 d3
          by_cases hab : sy < sz
          · have ab2 : decide (sy < sz) = true := decide_eq_true hab
            have HMk := Lib.hid (HMin.out.down HSwo.out (by rw [← HLtD.out, ltG_iff, HSy.out, HSz.out]; exact .inl hab) HXk.out HXt.out)
            refine wp_region_held_drew (S := (fun w' => w'.cell? ⟨gl2, ol2 + k * 3, none⟩ = some (.int .i64 y1) ∧ w'.cell? ⟨gl2, ol2 + k * 3 + 1, none⟩ = some (.int .i64 y2) ∧ w'.cell? ⟨gl2, ol2 + k * 3 + 2, none⟩ = some (.int .i64 y3) ∧ w'.cell? ⟨gl2, ol2 + t * 3, none⟩ = some (.int .i64 z1) ∧ w'.cell? ⟨gl2, ol2 + t * 3 + 1, none⟩ = some (.int .i64 z2) ∧ w'.cell? ⟨gl2, ol2 + t * 3 + 2, none⟩ = some (.int .i64 z3))) (by kernel_rfl) ?_ (fun hHeld => ?_)
            · ((first
  | exact HC11.out _ hbl
  | exact HC11.out _ (Below.refl _ _)
  | exact HC11.out _ hd0
  | fail))
            refine wpAnyH_take (i := 0) (v := ?_) rfl (by kernel_rfl) (by kernel_rfl) (by kernel_rfl) (fun _ _ _ h => h) (Or.inl ⟨by rfl, ?_⟩) (by assumption) ?_
            rotate_left
            · (intro w hSw; (try dsimp only at hSw); go_simp; try rfl)
            try simp only [Act.put, List.setIfInBounds_toArray, List.set_cons_zero, List.set_cons_succ, List.getElem_toArray, List.getElem_cons_zero, List.getElem_cons_succ]
            refine wpAnyH_take (i := 1) (v := ?_) rfl (by kernel_rfl) (by kernel_rfl) (by kernel_rfl) (fun _ _ _ h => h) (Or.inl ⟨by rfl, ?_⟩) (by assumption) ?_
            rotate_left
            · (intro w hSw; (try dsimp only at hSw); go_simp; try rfl)
            try simp only [Act.put, List.setIfInBounds_toArray, List.set_cons_zero, List.set_cons_succ, List.getElem_toArray, List.getElem_cons_zero, List.getElem_cons_succ]
            refine wpAnyH_take (i := 2) (v := ?_) rfl (by kernel_rfl) (by kernel_rfl) (by kernel_rfl) (fun _ _ _ h => h) (Or.inl ⟨by rfl, ?_⟩) (by assumption) ?_
            rotate_left
            · (intro w hSw; (try dsimp only at hSw); go_simp; try rfl)
            try simp only [Act.put, List.setIfInBounds_toArray, List.set_cons_zero, List.set_cons_succ, List.getElem_toArray, List.getElem_cons_zero, List.getElem_cons_succ]
            refine wpAnyH_take (i := 3) (v := ?_) rfl (by kernel_rfl) (by kernel_rfl) (by kernel_rfl) (fun _ _ _ h => h) (Or.inl ⟨by rfl, ?_⟩) (by assumption) ?_
            rotate_left
            · (intro w hSw; (try dsimp only at hSw); go_simp; try rfl)
            try simp only [Act.put, List.setIfInBounds_toArray, List.set_cons_zero, List.set_cons_succ, List.getElem_toArray, List.getElem_cons_zero, List.getElem_cons_succ]
            refine wpAnyH_take (i := 4) (v := undef) rfl (by kernel_rfl) (by kernel_rfl) (by kernel_rfl) (fun _ _ _ h => h) (Or.inr ⟨by rfl, rfl⟩) (by assumption) ?_
            try simp only [Act.put, List.setIfInBounds_toArray, List.set_cons_zero, List.set_cons_succ, List.getElem_toArray, List.getElem_cons_zero, List.getElem_cons_succ]
            refine wpAnyH_take (i := 5) (v := undef) rfl (by kernel_rfl) (by kernel_rfl) (by kernel_rfl) (fun _ _ _ h => h) (Or.inr ⟨by rfl, rfl⟩) (by assumption) ?_
            try simp only [Act.put, List.setIfInBounds_toArray, List.set_cons_zero, List.set_cons_succ, List.getElem_toArray, List.getElem_cons_zero, List.getElem_cons_succ]
            refine wpAnyH_take (i := 6) (v := undef) rfl (by kernel_rfl) (by kernel_rfl) (by kernel_rfl) (fun _ _ _ h => h) (Or.inr ⟨by rfl, rfl⟩) (by assumption) ?_
            try simp only [Act.put, List.setIfInBounds_toArray, List.set_cons_zero, List.set_cons_succ, List.getElem_toArray, List.getElem_cons_zero, List.getElem_cons_succ]
            refine wpAnyH_take (i := 7) (v := undef) rfl (by kernel_rfl) (by kernel_rfl) (by kernel_rfl) (fun _ _ _ h => h) (Or.inr ⟨by rfl, rfl⟩) (by assumption) ?_
            try simp only [Act.put, List.setIfInBounds_toArray, List.set_cons_zero, List.set_cons_succ, List.getElem_toArray, List.getElem_cons_zero, List.getElem_cons_succ]
            refine wpAnyH_take (i := 8) (v := undef) rfl (by kernel_rfl) (by kernel_rfl) (by kernel_rfl) (fun _ _ _ h => h) (Or.inr ⟨by rfl, rfl⟩) (by assumption) ?_
            try simp only [Act.put, List.setIfInBounds_toArray, List.set_cons_zero, List.set_cons_succ, List.getElem_toArray, List.getElem_cons_zero, List.getElem_cons_succ]
            refine wpAnyH_take (i := 9) (v := undef) rfl (by kernel_rfl) (by kernel_rfl) (by kernel_rfl) (fun _ _ _ h => h) (Or.inr ⟨by rfl, rfl⟩) (by assumption) ?_
            try simp only [Act.put, List.setIfInBounds_toArray, List.set_cons_zero, List.set_cons_succ, List.getElem_toArray, List.getElem_cons_zero, List.getElem_cons_succ]
            refine wpAnyH_take (i := 10) (v := undef) rfl (by kernel_rfl) (by kernel_rfl) (by kernel_rfl) (fun _ _ _ h => h) (Or.inr ⟨by rfl, rfl⟩) (by assumption) ?_
            try simp only [Act.put, List.setIfInBounds_toArray, List.set_cons_zero, List.set_cons_succ, List.getElem_toArray, List.getElem_cons_zero, List.getElem_cons_succ]
            refine wpAnyH_take (i := 11) (v := undef) rfl (by kernel_rfl) (by kernel_rfl) (by kernel_rfl) (fun _ _ _ h => h) (Or.inr ⟨by rfl, rfl⟩) (by assumption) ?_
            try simp only [Act.put, List.setIfInBounds_toArray, List.set_cons_zero, List.set_cons_succ, List.getElem_toArray, List.getElem_cons_zero, List.getElem_cons_succ]
            refine wpAnyH_take (i := 12) (v := undef) rfl (by kernel_rfl) (by kernel_rfl) (by kernel_rfl) (fun _ _ _ h => h) (Or.inr ⟨by rfl, rfl⟩) (by assumption) ?_
            try simp only [Act.put, List.setIfInBounds_toArray, List.set_cons_zero, List.set_cons_succ, List.getElem_toArray, List.getElem_cons_zero, List.getElem_cons_succ]
            refine wpAnyH_take (i := 13) (v := undef) rfl (by kernel_rfl) (by kernel_rfl) (by kernel_rfl) (fun _ _ _ h => h) (Or.inr ⟨by rfl, rfl⟩) (by assumption) ?_
            try simp only [Act.put, List.setIfInBounds_toArray, List.set_cons_zero, List.set_cons_succ, List.getElem_toArray, List.getElem_cons_zero, List.getElem_cons_succ]
            refine wpAnyH_take (i := 14) (v := undef) rfl (by kernel_rfl) (by kernel_rfl) (by kernel_rfl) (fun _ _ _ h => h) (Or.inr ⟨by rfl, rfl⟩) (by assumption) ?_
            try simp only [Act.put, List.setIfInBounds_toArray, List.set_cons_zero, List.set_cons_succ, List.getElem_toArray, List.getElem_cons_zero, List.getElem_cons_succ]
            refine wpAnyH_take (i := 15) (v := undef) rfl (by kernel_rfl) (by kernel_rfl) (by kernel_rfl) (fun _ _ _ h => h) (Or.inr ⟨by rfl, rfl⟩) (by assumption) ?_
            try simp only [Act.put, List.setIfInBounds_toArray, List.set_cons_zero, List.set_cons_succ, List.getElem_toArray, List.getElem_cons_zero, List.getElem_cons_succ]
            refine wpAnyH_take (i := 16) (v := undef) rfl (by kernel_rfl) (by kernel_rfl) (by kernel_rfl) (fun _ _ _ h => h) (Or.inr ⟨by rfl, rfl⟩) (by assumption) ?_
            try simp only [Act.put, List.setIfInBounds_toArray, List.set_cons_zero, List.set_cons_succ, List.getElem_toArray, List.getElem_cons_zero, List.getElem_cons_succ]
            refine wpAnyH_take (i := 17) (v := undef) rfl (by kernel_rfl) (by kernel_rfl) (by kernel_rfl) (fun _ _ _ h => h) (Or.inr ⟨by rfl, rfl⟩) (by assumption) ?_
            try simp only [Act.put, List.setIfInBounds_toArray, List.set_cons_zero, List.set_cons_succ, List.getElem_toArray, List.getElem_cons_zero, List.getElem_cons_succ]
            refine wpAnyH_take (i := 18) (v := ?_) rfl (by kernel_rfl) (by kernel_rfl) (by kernel_rfl) (fun _ _ _ h => h) (Or.inl ⟨by rfl, ?_⟩) (by assumption) ?_
            rotate_left
            · (intro w hSw; (try dsimp only at hSw); go_simp; try rfl)
            try simp only [Act.put, List.setIfInBounds_toArray, List.set_cons_zero, List.set_cons_succ, List.getElem_toArray, List.getElem_cons_zero, List.getElem_cons_succ]
            refine wpAnyH_done (by kernel_rfl) ?_ _
            have HB6 := Lib.hid (HB5.out.trans (hd0.mono HB5.out.size))
            have HL6 := Lib.hid (HL5.out.below hd0)
            have HO6 := Lib.hid (HO5.out.below hd0)
            have HM6 := HMk
            clear HC11 hd0 HB5 HL5 HO5 HMin
            go_wp2_with fail
            go_roundw
            case rel => exact ⟨k + 1, k, rfl, by go_num, by omega, by omega, HO6, HL6, HM6, HB6⟩
            case measure => simp [intOf]; omega
          · have ab2 : decide (sy < sz) = false := decide_eq_false hab
            by_cases hae : sy = sz
            · have ae2 : decide (sy = sz) = true := decide_eq_true hae
              have ae3 : (sy == sz) = true := by simpa using hae
              obtain ⟨ll, hll⟩ : ∃ q, ltI (y1, y2, y3) (z1, z2, z3) = q := ⟨_, rfl⟩
              have HLtE : Hid (lt (y1, y2, y3) (z1, z2, z3) = ll) := Lib.hid (by
                rw [← hll, ← HLtD.out, Bool.eq_iff_iff, ltG_iff, HSy.out, HSz.out]
                constructor
                · rintro (r | r)
                  · exact absurd r hab
                  · exact r.2
                · exact fun r => .inr ⟨hae, r⟩)
              refine wp_region_held_drew (S := (fun w' => w'.cell? ⟨gl2, ol2 + k * 3, none⟩ = some (.int .i64 y1) ∧ w'.cell? ⟨gl2, ol2 + k * 3 + 1, none⟩ = some (.int .i64 y2) ∧ w'.cell? ⟨gl2, ol2 + k * 3 + 2, none⟩ = some (.int .i64 y3) ∧ w'.cell? ⟨gl2, ol2 + t * 3, none⟩ = some (.int .i64 z1) ∧ w'.cell? ⟨gl2, ol2 + t * 3 + 1, none⟩ = some (.int .i64 z2) ∧ w'.cell? ⟨gl2, ol2 + t * 3 + 2, none⟩ = some (.int .i64 z3))) (by kernel_rfl) ?_ (fun hHeld => ?_)
              · ((first
  | exact HC11.out _ hbl
  | exact HC11.out _ (Below.refl _ _)
  | exact HC11.out _ hd0
  | fail))
              refine wpAnyH_take (i := 0) (v := ?_) rfl (by kernel_rfl) (by kernel_rfl) (by kernel_rfl) (fun _ _ _ h => h) (Or.inl ⟨by rfl, ?_⟩) (by assumption) ?_
              rotate_left
              · (intro w hSw; (try dsimp only at hSw); go_simp; try rfl)
              try simp only [Act.put, List.setIfInBounds_toArray, List.set_cons_zero, List.set_cons_succ, List.getElem_toArray, List.getElem_cons_zero, List.getElem_cons_succ]
              refine wpAnyH_take (i := 1) (v := ?_) rfl (by kernel_rfl) (by kernel_rfl) (by kernel_rfl) (fun _ _ _ h => h) (Or.inl ⟨by rfl, ?_⟩) (by assumption) ?_
              rotate_left
              · (intro w hSw; (try dsimp only at hSw); go_simp; try rfl)
              try simp only [Act.put, List.setIfInBounds_toArray, List.set_cons_zero, List.set_cons_succ, List.getElem_toArray, List.getElem_cons_zero, List.getElem_cons_succ]
              refine wpAnyH_take (i := 2) (v := ?_) rfl (by kernel_rfl) (by kernel_rfl) (by kernel_rfl) (fun _ _ _ h => h) (Or.inl ⟨by rfl, ?_⟩) (by assumption) ?_
              rotate_left
              · (intro w hSw; (try dsimp only at hSw); go_simp; try rfl)
              try simp only [Act.put, List.setIfInBounds_toArray, List.set_cons_zero, List.set_cons_succ, List.getElem_toArray, List.getElem_cons_zero, List.getElem_cons_succ]
              refine wpAnyH_take (i := 3) (v := ?_) rfl (by kernel_rfl) (by kernel_rfl) (by kernel_rfl) (fun _ _ _ h => h) (Or.inl ⟨by rfl, ?_⟩) (by assumption) ?_
              rotate_left
              · (intro w hSw; (try dsimp only at hSw); go_simp; try rfl)
              try simp only [Act.put, List.setIfInBounds_toArray, List.set_cons_zero, List.set_cons_succ, List.getElem_toArray, List.getElem_cons_zero, List.getElem_cons_succ]
              refine wpAnyH_take (i := 4) (v := ?_) rfl (by kernel_rfl) (by kernel_rfl) (by kernel_rfl) (fun _ _ _ h => h) (Or.inl ⟨by rfl, ?_⟩) (by assumption) ?_
              rotate_left
              · (intro w hSw; (try dsimp only at hSw); go_simp; try rfl)
              try simp only [Act.put, List.setIfInBounds_toArray, List.set_cons_zero, List.set_cons_succ, List.getElem_toArray, List.getElem_cons_zero, List.getElem_cons_succ]
              refine wpAnyH_take (i := 5) (v := ?_) rfl (by kernel_rfl) (by kernel_rfl) (by kernel_rfl) (fun _ _ _ h => h) (Or.inl ⟨by rfl, ?_⟩) (by assumption) ?_
              rotate_left
              · (intro w hSw; (try dsimp only at hSw); go_simp; try rfl)
              try simp only [Act.put, List.setIfInBounds_toArray, List.set_cons_zero, List.set_cons_succ, List.getElem_toArray, List.getElem_cons_zero, List.getElem_cons_succ]
              refine wpAnyH_take (i := 6) (v := ?_) rfl (by kernel_rfl) (by kernel_rfl) (by kernel_rfl) (fun _ _ _ h => h) (Or.inl ⟨by rfl, ?_⟩) (by assumption) ?_
              rotate_left
              · (intro w hSw; (try dsimp only at hSw); go_simp; try rfl)
              try simp only [Act.put, List.setIfInBounds_toArray, List.set_cons_zero, List.set_cons_succ, List.getElem_toArray, List.getElem_cons_zero, List.getElem_cons_succ]
              refine wpAnyH_take (i := 7) (v := ?_) rfl (by kernel_rfl) (by kernel_rfl) (by kernel_rfl) (fun _ _ _ h => h) (Or.inl ⟨by rfl, ?_⟩) (by assumption) ?_
              rotate_left
              · (intro w hSw; (try dsimp only at hSw); go_simp; try rfl)
              try simp only [Act.put, List.setIfInBounds_toArray, List.set_cons_zero, List.set_cons_succ, List.getElem_toArray, List.getElem_cons_zero, List.getElem_cons_succ]
              refine wpAnyH_take (i := 8) (v := ?_) rfl (by kernel_rfl) (by kernel_rfl) (by kernel_rfl) (fun _ _ _ h => h) (Or.inl ⟨by rfl, ?_⟩) (by assumption) ?_
              rotate_left
              · (intro w hSw; (try dsimp only at hSw); go_simp; try rfl)
              try simp only [Act.put, List.setIfInBounds_toArray, List.set_cons_zero, List.set_cons_succ, List.getElem_toArray, List.getElem_cons_zero, List.getElem_cons_succ]
              refine wpAnyH_take (i := 9) (v := ?_) rfl (by kernel_rfl) (by kernel_rfl) (by kernel_rfl) (fun _ _ _ h => h) (Or.inl ⟨by rfl, ?_⟩) (by assumption) ?_
              rotate_left
              · (intro w hSw; (try dsimp only at hSw); go_simp; try rfl)
              try simp only [Act.put, List.setIfInBounds_toArray, List.set_cons_zero, List.set_cons_succ, List.getElem_toArray, List.getElem_cons_zero, List.getElem_cons_succ]
              refine wpAnyH_take (i := 10) (v := ?_) rfl (by kernel_rfl) (by kernel_rfl) (by kernel_rfl) (fun _ _ _ h => h) (Or.inl ⟨by rfl, ?_⟩) (by assumption) ?_
              rotate_left
              · (intro w hSw; (try dsimp only at hSw); go_simp; try rfl)
              try simp only [Act.put, List.setIfInBounds_toArray, List.set_cons_zero, List.set_cons_succ, List.getElem_toArray, List.getElem_cons_zero, List.getElem_cons_succ]
              refine wpAnyH_take (i := 11) (v := ?_) rfl (by kernel_rfl) (by kernel_rfl) (by kernel_rfl) (fun _ _ _ h => h) (Or.inl ⟨by rfl, ?_⟩) (by assumption) ?_
              rotate_left
              · (intro w hSw; (try dsimp only at hSw); go_simp; try rfl)
              try simp only [Act.put, List.setIfInBounds_toArray, List.set_cons_zero, List.set_cons_succ, List.getElem_toArray, List.getElem_cons_zero, List.getElem_cons_succ]
              refine wpAnyH_take (i := 12) (v := ?_) rfl (by kernel_rfl) (by kernel_rfl) (by kernel_rfl) (fun _ _ _ h => h) (Or.inl ⟨by rfl, ?_⟩) (by assumption) ?_
              rotate_left
              · (intro w hSw; (try dsimp only at hSw); go_simp; try rfl)
              try simp only [Act.put, List.setIfInBounds_toArray, List.set_cons_zero, List.set_cons_succ, List.getElem_toArray, List.getElem_cons_zero, List.getElem_cons_succ]
              refine wpAnyH_take (i := 13) (v := ?_) rfl (by kernel_rfl) (by kernel_rfl) (by kernel_rfl) (fun _ _ _ h => h) (Or.inl ⟨by rfl, ?_⟩) (by assumption) ?_
              rotate_left
              · (intro w hSw; (try dsimp only at hSw); go_simp; try rfl)
              try simp only [Act.put, List.setIfInBounds_toArray, List.set_cons_zero, List.set_cons_succ, List.getElem_toArray, List.getElem_cons_zero, List.getElem_cons_succ]
              refine wpAnyH_take (i := 14) (v := ?_) rfl (by kernel_rfl) (by kernel_rfl) (by kernel_rfl) (fun _ _ _ h => h) (Or.inl ⟨by rfl, ?_⟩) (by assumption) ?_
              rotate_left
              · (intro w hSw; (try dsimp only at hSw); go_simp; try rfl)
              try simp only [Act.put, List.setIfInBounds_toArray, List.set_cons_zero, List.set_cons_succ, List.getElem_toArray, List.getElem_cons_zero, List.getElem_cons_succ]
              refine wpAnyH_take (i := 15) (v := ?_) rfl (by kernel_rfl) (by kernel_rfl) (by kernel_rfl) (fun _ _ _ h => h) (Or.inl ⟨by rfl, ?_⟩) (by assumption) ?_
              rotate_left
              · (intro w hSw; (try dsimp only at hSw); go_simp; try rfl)
              try simp only [Act.put, List.setIfInBounds_toArray, List.set_cons_zero, List.set_cons_succ, List.getElem_toArray, List.getElem_cons_zero, List.getElem_cons_succ]
              refine wpAnyH_ready (rs := [16]) (by kernel_rfl) (by simp) ?_
              refine (AllReadyH.cons rfl (fun K hK => ?_) AllReadyH.nil)
              go_simp
              (go_at_call 51; refine (rless_any y1 y2 y3 z1 z2 z3 _).mono ?_; rintro e wl ⟨rfl, hgr⟩; have hbl : Below w5.heap.size w5 wl := hd0.trans (hgr.below.mono (by simp)); rw [hll]; clear hgr)
              refine hK.out _ _ ?_ (fun hHeld => ?_)
              · ((first
  | exact HC11.out _ hbl
  | exact HC11.out _ (Below.refl _ _)
  | exact HC11.out _ hd0
  | fail))
              clear hK K
              try simp only [Act.put, List.setIfInBounds_toArray, List.set_cons_zero, List.set_cons_succ, List.getElem_toArray, List.getElem_cons_zero, List.getElem_cons_succ]
              refine wpAnyH_take (i := 17) (v := ?_) rfl (by kernel_rfl) (by kernel_rfl) (by kernel_rfl) (fun _ _ _ h => h) (Or.inl ⟨by rfl, ?_⟩) (by assumption) ?_
              rotate_left
              · (intro w hSw; (try dsimp only at hSw); go_simp; try rfl)
              try simp only [Act.put, List.setIfInBounds_toArray, List.set_cons_zero, List.set_cons_succ, List.getElem_toArray, List.getElem_cons_zero, List.getElem_cons_succ]
              refine wpAnyH_take (i := 18) (v := ?_) rfl (by kernel_rfl) (by kernel_rfl) (by kernel_rfl) (fun _ _ _ h => h) (Or.inl ⟨by rfl, ?_⟩) (by assumption) ?_
              rotate_left
              · (intro w hSw; (try dsimp only at hSw); go_simp; try rfl)
              try simp only [Act.put, List.setIfInBounds_toArray, List.set_cons_zero, List.set_cons_succ, List.getElem_toArray, List.getElem_cons_zero, List.getElem_cons_succ]
              refine wpAnyH_done (by kernel_rfl) ?_ _
              cases ll with
              | true =>
                have HMk := Lib.hid (HMin.out.down HSwo.out (HLtE.out.trans rfl) HXk.out HXt.out)
                have HB6 := Lib.hid (HB5.out.trans (hbl.mono HB5.out.size))
                have HL6 := Lib.hid (HL5.out.below hbl)
                have HO6 := Lib.hid (HO5.out.below hbl)
                have HM6 := HMk
                clear HC11 hd0 HB5 HL5 HO5 HMin
                go_wp2_with fail
                go_roundw
                case rel => exact ⟨k + 1, k, rfl, by go_num, by omega, by omega, HO6, HL6, HM6, HB6⟩
                case measure => simp [intOf]; omega
              | false =>
                have HMt := Lib.hid (HMin.out.stay (HLtE.out.trans rfl) HXk.out HXt.out)
                have HB6 := Lib.hid (HB5.out.trans (hbl.mono HB5.out.size))
                have HL6 := Lib.hid (HL5.out.below hbl)
                have HO6 := Lib.hid (HO5.out.below hbl)
                have HM6 := HMt
                clear HC11 hd0 HB5 HL5 HO5 HMin
                go_wp2_with fail
                go_roundw
                case rel => exact ⟨k + 1, t, rfl, by go_num, by omega, by omega, HO6, HL6, HM6, HB6⟩
                case measure => simp [intOf]; omega
            · have ae2 : decide (sy = sz) = false := decide_eq_false hae
              have ae3 : (sy == sz) = false := by simpa using hae
              have HMt := Lib.hid (HMin.out.stay (by
                rw [← HLtD.out, Bool.eq_false_iff, ne_eq, ltG_iff, HSy.out, HSz.out]
                rintro (r | r)
                · exact hab r
                · exact hae r.1) HXk.out HXt.out)
              refine wp_region_held_drew (S := (fun w' => w'.cell? ⟨gl2, ol2 + k * 3, none⟩ = some (.int .i64 y1) ∧ w'.cell? ⟨gl2, ol2 + k * 3 + 1, none⟩ = some (.int .i64 y2) ∧ w'.cell? ⟨gl2, ol2 + k * 3 + 2, none⟩ = some (.int .i64 y3) ∧ w'.cell? ⟨gl2, ol2 + t * 3, none⟩ = some (.int .i64 z1) ∧ w'.cell? ⟨gl2, ol2 + t * 3 + 1, none⟩ = some (.int .i64 z2) ∧ w'.cell? ⟨gl2, ol2 + t * 3 + 2, none⟩ = some (.int .i64 z3))) (by kernel_rfl) ?_ (fun hHeld => ?_)
              · ((first
  | exact HC11.out _ hbl
  | exact HC11.out _ (Below.refl _ _)
  | exact HC11.out _ hd0
  | fail))
              refine wpAnyH_take (i := 0) (v := ?_) rfl (by kernel_rfl) (by kernel_rfl) (by kernel_rfl) (fun _ _ _ h => h) (Or.inl ⟨by rfl, ?_⟩) (by assumption) ?_
              rotate_left
              · (intro w hSw; (try dsimp only at hSw); go_simp; try rfl)
              try simp only [Act.put, List.setIfInBounds_toArray, List.set_cons_zero, List.set_cons_succ, List.getElem_toArray, List.getElem_cons_zero, List.getElem_cons_succ]
              refine wpAnyH_take (i := 1) (v := ?_) rfl (by kernel_rfl) (by kernel_rfl) (by kernel_rfl) (fun _ _ _ h => h) (Or.inl ⟨by rfl, ?_⟩) (by assumption) ?_
              rotate_left
              · (intro w hSw; (try dsimp only at hSw); go_simp; try rfl)
              try simp only [Act.put, List.setIfInBounds_toArray, List.set_cons_zero, List.set_cons_succ, List.getElem_toArray, List.getElem_cons_zero, List.getElem_cons_succ]
              refine wpAnyH_take (i := 2) (v := ?_) rfl (by kernel_rfl) (by kernel_rfl) (by kernel_rfl) (fun _ _ _ h => h) (Or.inl ⟨by rfl, ?_⟩) (by assumption) ?_
              rotate_left
              · (intro w hSw; (try dsimp only at hSw); go_simp; try rfl)
              try simp only [Act.put, List.setIfInBounds_toArray, List.set_cons_zero, List.set_cons_succ, List.getElem_toArray, List.getElem_cons_zero, List.getElem_cons_succ]
              refine wpAnyH_take (i := 3) (v := ?_) rfl (by kernel_rfl) (by kernel_rfl) (by kernel_rfl) (fun _ _ _ h => h) (Or.inl ⟨by rfl, ?_⟩) (by assumption) ?_
              rotate_left
              · (intro w hSw; (try dsimp only at hSw); go_simp; try rfl)
              try simp only [Act.put, List.setIfInBounds_toArray, List.set_cons_zero, List.set_cons_succ, List.getElem_toArray, List.getElem_cons_zero, List.getElem_cons_succ]
              refine wpAnyH_take (i := 4) (v := ?_) rfl (by kernel_rfl) (by kernel_rfl) (by kernel_rfl) (fun _ _ _ h => h) (Or.inl ⟨by rfl, ?_⟩) (by assumption) ?_
              rotate_left
              · (intro w hSw; (try dsimp only at hSw); go_simp; try rfl)
              try simp only [Act.put, List.setIfInBounds_toArray, List.set_cons_zero, List.set_cons_succ, List.getElem_toArray, List.getElem_cons_zero, List.getElem_cons_succ]
              refine wpAnyH_take (i := 5) (v := ?_) rfl (by kernel_rfl) (by kernel_rfl) (by kernel_rfl) (fun _ _ _ h => h) (Or.inl ⟨by rfl, ?_⟩) (by assumption) ?_
              rotate_left
              · (intro w hSw; (try dsimp only at hSw); go_simp; try rfl)
              try simp only [Act.put, List.setIfInBounds_toArray, List.set_cons_zero, List.set_cons_succ, List.getElem_toArray, List.getElem_cons_zero, List.getElem_cons_succ]
              refine wpAnyH_take (i := 6) (v := ?_) rfl (by kernel_rfl) (by kernel_rfl) (by kernel_rfl) (fun _ _ _ h => h) (Or.inl ⟨by rfl, ?_⟩) (by assumption) ?_
              rotate_left
              · (intro w hSw; (try dsimp only at hSw); go_simp; try rfl)
              try simp only [Act.put, List.setIfInBounds_toArray, List.set_cons_zero, List.set_cons_succ, List.getElem_toArray, List.getElem_cons_zero, List.getElem_cons_succ]
              refine wpAnyH_take (i := 7) (v := ?_) rfl (by kernel_rfl) (by kernel_rfl) (by kernel_rfl) (fun _ _ _ h => h) (Or.inl ⟨by rfl, ?_⟩) (by assumption) ?_
              rotate_left
              · (intro w hSw; (try dsimp only at hSw); go_simp; try rfl)
              try simp only [Act.put, List.setIfInBounds_toArray, List.set_cons_zero, List.set_cons_succ, List.getElem_toArray, List.getElem_cons_zero, List.getElem_cons_succ]
              refine wpAnyH_take (i := 8) (v := undef) rfl (by kernel_rfl) (by kernel_rfl) (by kernel_rfl) (fun _ _ _ h => h) (Or.inr ⟨by rfl, rfl⟩) (by assumption) ?_
              try simp only [Act.put, List.setIfInBounds_toArray, List.set_cons_zero, List.set_cons_succ, List.getElem_toArray, List.getElem_cons_zero, List.getElem_cons_succ]
              refine wpAnyH_take (i := 9) (v := undef) rfl (by kernel_rfl) (by kernel_rfl) (by kernel_rfl) (fun _ _ _ h => h) (Or.inr ⟨by rfl, rfl⟩) (by assumption) ?_
              try simp only [Act.put, List.setIfInBounds_toArray, List.set_cons_zero, List.set_cons_succ, List.getElem_toArray, List.getElem_cons_zero, List.getElem_cons_succ]
              refine wpAnyH_take (i := 10) (v := undef) rfl (by kernel_rfl) (by kernel_rfl) (by kernel_rfl) (fun _ _ _ h => h) (Or.inr ⟨by rfl, rfl⟩) (by assumption) ?_
              try simp only [Act.put, List.setIfInBounds_toArray, List.set_cons_zero, List.set_cons_succ, List.getElem_toArray, List.getElem_cons_zero, List.getElem_cons_succ]
              refine wpAnyH_take (i := 11) (v := undef) rfl (by kernel_rfl) (by kernel_rfl) (by kernel_rfl) (fun _ _ _ h => h) (Or.inr ⟨by rfl, rfl⟩) (by assumption) ?_
              try simp only [Act.put, List.setIfInBounds_toArray, List.set_cons_zero, List.set_cons_succ, List.getElem_toArray, List.getElem_cons_zero, List.getElem_cons_succ]
              refine wpAnyH_take (i := 12) (v := undef) rfl (by kernel_rfl) (by kernel_rfl) (by kernel_rfl) (fun _ _ _ h => h) (Or.inr ⟨by rfl, rfl⟩) (by assumption) ?_
              try simp only [Act.put, List.setIfInBounds_toArray, List.set_cons_zero, List.set_cons_succ, List.getElem_toArray, List.getElem_cons_zero, List.getElem_cons_succ]
              refine wpAnyH_take (i := 13) (v := undef) rfl (by kernel_rfl) (by kernel_rfl) (by kernel_rfl) (fun _ _ _ h => h) (Or.inr ⟨by rfl, rfl⟩) (by assumption) ?_
              try simp only [Act.put, List.setIfInBounds_toArray, List.set_cons_zero, List.set_cons_succ, List.getElem_toArray, List.getElem_cons_zero, List.getElem_cons_succ]
              refine wpAnyH_take (i := 14) (v := undef) rfl (by kernel_rfl) (by kernel_rfl) (by kernel_rfl) (fun _ _ _ h => h) (Or.inr ⟨by rfl, rfl⟩) (by assumption) ?_
              try simp only [Act.put, List.setIfInBounds_toArray, List.set_cons_zero, List.set_cons_succ, List.getElem_toArray, List.getElem_cons_zero, List.getElem_cons_succ]
              refine wpAnyH_take (i := 15) (v := undef) rfl (by kernel_rfl) (by kernel_rfl) (by kernel_rfl) (fun _ _ _ h => h) (Or.inr ⟨by rfl, rfl⟩) (by assumption) ?_
              try simp only [Act.put, List.setIfInBounds_toArray, List.set_cons_zero, List.set_cons_succ, List.getElem_toArray, List.getElem_cons_zero, List.getElem_cons_succ]
              refine wpAnyH_take (i := 16) (v := undef) rfl (by kernel_rfl) (by kernel_rfl) (by kernel_rfl) (fun _ _ _ h => h) (Or.inr ⟨by rfl, rfl⟩) (by assumption) ?_
              try simp only [Act.put, List.setIfInBounds_toArray, List.set_cons_zero, List.set_cons_succ, List.getElem_toArray, List.getElem_cons_zero, List.getElem_cons_succ]
              refine wpAnyH_take (i := 17) (v := ?_) rfl (by kernel_rfl) (by kernel_rfl) (by kernel_rfl) (fun _ _ _ h => h) (Or.inl ⟨by rfl, ?_⟩) (by assumption) ?_
              rotate_left
              · (intro w hSw; (try dsimp only at hSw); go_simp; try rfl)
              try simp only [Act.put, List.setIfInBounds_toArray, List.set_cons_zero, List.set_cons_succ, List.getElem_toArray, List.getElem_cons_zero, List.getElem_cons_succ]
              refine wpAnyH_take (i := 18) (v := ?_) rfl (by kernel_rfl) (by kernel_rfl) (by kernel_rfl) (fun _ _ _ h => h) (Or.inl ⟨by rfl, ?_⟩) (by assumption) ?_
              rotate_left
              · (intro w hSw; (try dsimp only at hSw); go_simp; try rfl)
              try simp only [Act.put, List.setIfInBounds_toArray, List.set_cons_zero, List.set_cons_succ, List.getElem_toArray, List.getElem_cons_zero, List.getElem_cons_succ]
              refine wpAnyH_done (by kernel_rfl) ?_ _
              have HB6 := Lib.hid (HB5.out.trans (hd0.mono HB5.out.size))
              have HL6 := Lib.hid (HL5.out.below hd0)
              have HO6 := Lib.hid (HO5.out.below hd0)
              have HM6 := HMt
              clear HC11 hd0 HB5 HL5 HO5 HMin
              go_wp2_with fail
              go_roundw
              case rel => exact ⟨k + 1, t, rfl, by go_num, by omega, by omega, HO6, HL6, HM6, HB6⟩
              case measure => simp [intOf]; omega
        · obtain rfl : k = nl := by omega
          have kk1 : ¬ (k : Int) < (k : Int) := by omega
          have kk2 : decide ((k : Int) < (k : Int)) = false := decide_eq_false kk1
          have kk3 : decide (k < k) = false := decide_eq_false (by omega)
          have tk1 : (t : Int) < (k : Int) := by omega
          have tk2 : decide ((t : Int) < (k : Int)) = true := decide_eq_true tk1
          have tk3 : decide (t < k) = true := decide_eq_true (by omega)
          obtain ⟨e0, gl, ol, hda, hgl, q1, q2, q3, hjl⟩ := idCell HL.out.rd t htk
          obtain ⟨⟨z1, z2, z3⟩, hZ⟩ : ∃ X, L.getD t (0, 0, 0) = X := ⟨_, rfl⟩
          rw [hZ] at q1 q2 q3
          have HXt : Hid (L[t]? = some (z1, z2, z3)) := Lib.hid (by rw [← hZ]; simp [List.getD, hjl])
          have HI2 : Hid (SrI lt G (S ++ [(z1, z2, z3)]) (lesI L [(z1, z2, z3)])) := Lib.hid (HI.out.step HTot.out (by rw [HNl.out]; exact HMin.out) HXt.out)
          have HLe : Hid ((lesI L [(z1, z2, z3)]).length + 1 ≤ k) := Lib.hid (by rw [← HNl.out]; exact les_len HI.out.nd (List.mem_iff_getElem?.2 ⟨t, HXt.out⟩))
          subst hda
          have HL6 : Hid (S.length + 1 ≤ 1000000) := Lib.hid (by rw [HNs.out]; omega)
          have HT1 : Hid ((S ++ [(z1, z2, z3)]).length = ns + 1) := Lib.hid (by rw [List.length_append, HNs.out]; rfl)
          have HAq : Hid (∀ q, (Value.slice sa ns cs).ownBlock = some q → q < wr.heap.size) := Lib.hid (fun q hq => (HO.out.blk q hq).1)
          have HMq : Hid (∀ q, (Value.slice (some ⟨gl, ol, none⟩) k cl).ownBlock = some q → q < wr.heap.size) := Lib.hid (fun q hq => (HL.out.blk q hq).1)
          have hzn := HB.out.size
          clear e0 hZ hjl HI HMin
          go_wp2_with (refine IK.app2 rfl _ _ rfl w.heap.size (.slice sa ns cs) S rfl ?own _ 1 [(z1, z2, z3)] rfl ?rd (by simp) HL6.out ?bs ?_)
          case own => exact HO.out.below ((Below.refl _ _).alloc (Nat.le_refl _) _)
          case rd => exact IK.rd_boxAt (z1, z2, z3) _ 1 _ _ (by simp)
          case bs => first | omega | (simp; omega) | fail
          intro v7 w7 ho hb hg hnx
          have HL7 : Hid (IK.Own w7 w.heap.size (.slice (some ⟨gl, ol, none⟩) k cl) L) := Lib.hid ((HL.out.below ((Below.refl _ _).alloc (Nat.le_refl _) _)).keepB fun q hq => hg.block q (by have := HMq.out q hq; simp; omega) (fun e => HAp.out q e.symm hq))
          obtain ⟨a7, c7, e7⟩ := ho.slice
          rw [HT1.out] at e7
          subst e7
          have HO7 := Lib.hid ho
          have HB7 : Hid (Below w.heap.size w w7) := Lib.hid ((HB.out.alloc hzn _).trans hb)
          clear ho hb hg hnx HAp HAq HMq HB HO HL hzn q1 q2 q3 hgl
          obtain ⟨e0, gl', ol', hda', hgl, q1, q2, q3, hjl⟩ := idCell HL7.out.rd t htk
          obtain ⟨rfl, rfl⟩ : gl' = gl ∧ ol' = ol := by simpa using hda'.symm
          obtain ⟨⟨z1', z2', z3'⟩, hZ⟩ : ∃ X, L.getD t (0, 0, 0) = X := ⟨_, rfl⟩
          obtain ⟨rfl, rfl, rfl⟩ : z1' = z1 ∧ z2' = z2 ∧ z3' = z3 := by
            have q : L[t]? = some (L.getD t (0, 0, 0)) := by simp [List.getD, hjl]
            rw [HXt.out, hZ] at q
            have := (Option.some.inj q).symm
            simpa using this
          rw [hZ] at q1 q2 q3
          clear e0 hda' hZ hjl hgl
          have HLs : Hid (∀ W g, W.heap.size = g → IK.Rd W (.slice (some ⟨gl', ol', none⟩) k cl) L → Calls Try.prog 52 #[.slice (some ⟨gl', ol', none⟩) k cl, .slice (some ⟨g, 0, none⟩) 1 1] (W.alloc (.cells #[.int .i64 z1', .int .i64 z2', .int .i64 z3'] 25)) (RowP (lesI L [(z1', z2', z3')]) (W.alloc (.cells #[.int .i64 z1', .int .i64 z2', .int .i64 z3'] 25)))) := Lib.hid fun W g hg hr => rless2_any _ _ L [(z1', z2', z3')] _ (hr.below ((Below.refl _ _).alloc (Nat.le_refl _) _)) (IK.rd_boxAt (z1', z2', z3') _ 1 _ _ hg) (by rw [HNl.out]; omega) (by simp)
          have hsz7 := HB7.out.size
          go_wp2_with fail
          refine (HLs.out w7 _ rfl HL7.out.rd).mono ?_
          rintro e w8 ⟨v8, he, ho, hb⟩
          rw [he.out]
          have hba : Below w7.heap.size w7 w8 := ((Below.refl _ _).alloc (Nat.le_refl _) _).trans (hb.mono (by simp))
          obtain ⟨a8, c8, e8⟩ := ho.slice
          subst e8
          obtain ⟨n8, hn8⟩ : ∃ q, (lesI L [(z1', z2', z3')]).length = q := ⟨_, rfl⟩
          have HLe8 := HLe.out
          rw [hn8] at ho HLe8 ⊢
          have HAp8 : Hid (∀ q, (Value.slice a7 (ns + 1) c7).ownBlock = some q → (Value.slice a8 n8 c8).ownBlock ≠ some q) := Lib.hid (fun q hq e => by
            have r1 := (HO7.out.blk q hq).1
            have r2 := ho.from q e
            simp at r2
            omega)
          have HO8 := Lib.hid (HO7.out.below hba)
          have HL8 := Lib.hid (ho.base (show w.heap.size ≤ _ by simp; omega))
          have HB8 := Lib.hid (HB7.out.trans (hba.mono hsz7))
          have HN8 := Lib.hid hn8
          clear he ho hb hba hn8 HO7 HL7 HB7 HLs q1 q2 q3 hsz7
          go_wp2_with fail
          go_roundw
          case rel => exact ⟨a7, ns + 1, c7, a8, n8, c8, _, _, rfl, rfl, HT1, HN8, HO8, HL8, HAp8, HI2, HB8⟩
          case measure => simp [slen]; omega
    · obtain rfl : nl = 0 := by omega
      have HE : Hid (SrtIs nv G S) := Lib.hid (by
        have hL : L = [] := List.eq_nil_of_length_eq_zero HNl.out
        have q := HI.out
        rw [hL, ← HLtD.out] at q
        exact ⟨fun x => by rw [q.mem x]; simp, q.srt, by have := q.len; simpa using this⟩)
      clear HI
      go_wp2
      go_ret
      exact ⟨S, _, Lib.hid rfl, HE.out, HO.out, HB.out⟩
end Go.Proofs.Ytlckjpjcfalfnaa
namespace Go.Proofs.Ytlckjpjcfalfnaa
open Go.RowKit Go.Sort
open Go.WideMaps
set_option linter.unusedSimpArgs false
set_option linter.unusedVariables false
set_option maxRecDepth 100000

/-- One leads to another one, and back; or is it. -/
def GrpM (nv : List NV) (dn : List I3) (x y : I3) : Prop := y = x ∨ (y ∉ dn ∧ Rch (cutS (webL nv) dn x) x y ∧ Rch (cutS (webL nv) dn y) y x)
theorem key_in {nv : List NV} {cur : List (I3 × NV)} {dn : List I3} (h : RdyIs (webL nv) cur dn) {y : I3} (hy : y ∈ keysV cur) : y ∈ idsN nv ∧ y ∉ dn ∧ ndOf cur y = ndOf (webL nv) y := by
  obtain ⟨n, hn⟩ := mem_keys.1 hy
  have q := h.sub y n hn
  exact ⟨(webL_keys nv y).1 (mem_keys.2 ⟨n, q.1⟩), q.2, by unfold ndOf; rw [hn, q.1]⟩
theorem steps_cur {nv : List NV} {cur : List (I3 × NV)} {dn : List I3} (h : RdyIs (webL nv) cur dn) {y : I3} (hy : y ∈ keysV cur) : stepsV cur y = stepsV (webL nv) y := by
  unfold stepsV
  rw [(key_in h hy).2.2]
theorem eV_in {nv : List NV} {cur : List (I3 × NV)} {dn : List I3} (h : RdyIs (webL nv) cur dn) {z d : I3} (hd : d ∈ eV cur z) : z ∈ keysV cur ∧ d ∈ keysV cur ∧ d ∈ stepsV (webL nv) z := by
  obtain ⟨h1, h2⟩ := mem_eV.1 hd
  have hz : z ∈ keysV cur := by
    cases q : getV cur z with
    | none =>
      unfold stepsV ndOf at h1
      rw [q] at h1
      cases h1
    | some n => exact mem_keys.2 ⟨n, q⟩
  have hd2 : d ∈ keysV cur := by
    obtain ⟨n, hn⟩ := Option.isSome_iff_exists.1 h2
    exact mem_keys.2 ⟨n, hn⟩
  exact ⟨hz, hd2, by rw [← steps_cur h hz]; exact h1⟩
theorem eV_of {nv : List NV} {cur : List (I3 × NV)} {dn : List I3} (h : RdyIs (webL nv) cur dn) {z d : I3} (hz : z ∈ keysV cur) (hd : d ∈ stepsV (webL nv) z) (hk : d ∈ keysV cur) : d ∈ eV cur z := by
  obtain ⟨n, hn⟩ := mem_keys.1 hk
  exact mem_eV.2 ⟨by rw [steps_cur h hz]; exact hd, by rw [hn]; rfl⟩
theorem cut_eV {nv : List NV} {cur : List (I3 × NV)} {dn : List I3} (h : RdyIs (webL nv) cur dn) {x y : I3} (hx : x ∈ keysV cur) (hr : Rch (cutS (webL nv) dn x) x y) : y ∈ dn ∨ (y ∈ keysV cur ∧ Rch (eV cur) x y) := by
  induction hr with
  | @one d q =>
    rcases h.closed x hx d (cutS_in q) with r | r
    · exact .inl r
    · exact .inr ⟨r, .one (eV_of h hx (cutS_in q) r)⟩
  | @more p d r1 r2 ih =>
    rcases ih with ih | ⟨i1, i2⟩
    · have hpx : p = x := by
        by_cases e : p = x
        · exact e
        · unfold cutS at r2
          rw [if_pos ⟨ih, e⟩] at r2
          cases r2
      rw [hpx] at ih
      exact absurd ih (key_in h hx).2.1
    · rcases h.closed p i1 d (cutS_in r2) with r | r
      · exact .inl r
      · exact .inr ⟨r, .more i2 (eV_of h i1 (cutS_in r2) r)⟩
theorem eV_cut {nv : List NV} {cur : List (I3 × NV)} {dn : List I3} (h : RdyIs (webL nv) cur dn) {a x y : I3} (hr : Rch (eV cur) x y) : Rch (cutS (webL nv) dn a) x y := by
  have st : ∀ z d, d ∈ eV cur z → d ∈ cutS (webL nv) dn a z := fun z d hd => by
    obtain ⟨h1, _, h3⟩ := eV_in h hd
    unfold cutS
    rw [if_neg (fun q => (key_in h h1).2.1 q.1)]
    exact h3
  induction hr with
  | one q => exact .one (st _ _ q)
  | more _ r2 ih => exact .more ih (st _ _ r2)
theorem mem_mid {o1 o2 : List (List I3)} {g : List I3} {x : I3} (hx : x ∈ g) : x ∈ (o1 ++ g :: o2).flatten := by simp [hx]
theorem grp_iff {nv : List NV} {cur : List (I3 × NV)} {dn : List I3} (h : RdyIs (webL nv) cur dn) {os o1 o2 : List (List I3)} {g : List I3} (hs : OrdSem cur os) (e : os = o1 ++ g :: o2) {x : I3} (hx : x ∈ g) (y : I3) : GrpM nv dn x y ↔ y ∈ g := by
  have hk : ∀ z ∈ g, z ∈ keysV cur := fun z hz => (hs.mem z).1 (by rw [e]; exact mem_mid hz)
  constructor
  · rintro (rfl | ⟨h1, h2, h3⟩)
    · exact hx
    · rcases cut_eV h (hk x hx) h2 with q | ⟨q1, q2⟩
      · exact absurd q h1
      · rcases cut_eV h q1 h3 with r | ⟨_, r2⟩
        · exact absurd r (key_in h (hk x hx)).2.1
        · exact hs.class' e hx q2 r2
  · intro hy
    have hgo : g ∈ os := by rw [e]; simp
    rcases hs.mutu g hgo x hx y hy with q | q
    · exact .inl q.symm
    · rcases hs.mutu g hgo y hy x hx with r | r
      · exact .inl r
      · exact .inr ⟨(key_in h (hk y hy)).2.1, eV_cut h q, eV_cut h r⟩
/-- One's group may come next. -/
def OkX (nv : List NV) (dn : List I3) (p : List (List I3)) (x : I3) : Prop := (x ∉ dn ∧ x ∉ p.flatten) ∧ ∀ y, GrpM nv dn x y → ∀ d ∈ stepsV (webL nv) y, (d ∈ dn ∨ d ∈ p.flatten) ∨ GrpM nv dn x d
theorem ok_iff {nv : List NV} {cur : List (I3 × NV)} {dn : List I3} (h : RdyIs (webL nv) cur dn) {os p r1 r2 : List (List I3)} {g : List I3} (hs : OrdSem cur os) (e : os = p ++ (r1 ++ g :: r2)) {x : I3} (hx : x ∈ g) : OkX nv dn p x ↔ ∀ y ∈ g, ∀ d ∈ eV cur y, d ∈ g ∨ d ∈ p.flatten := by
  have e2 : os = (p ++ r1) ++ g :: r2 := by rw [e]; simp
  have hk : ∀ z ∈ g, z ∈ keysV cur := fun z hz => (hs.mem z).1 (by rw [e2]; exact mem_mid hz)
  constructor
  · rintro ⟨_, q⟩ y hy d hd
    obtain ⟨h1, h2, h3⟩ := eV_in h hd
    rcases q y ((grp_iff h hs e2 hx y).2 hy) d h3 with (r | r) | r
    · exact absurd r (key_in h h2).2.1
    · exact .inr r
    · exact .inl ((grp_iff h hs e2 hx d).1 r)
  · intro q
    refine ⟨⟨(key_in h (hk x hx)).2.1, fun r => ?_⟩, fun y hy d hd => ?_⟩
    · have hn := hs.nd
      rw [e, List.flatten_append, List.nodup_append] at hn
      exact hn.2.2 x r x (mem_mid hx) rfl
    · have hyg := (grp_iff h hs e2 hx y).1 hy
      rcases h.closed y (hk y hyg) d hd with r | r
      · exact .inl (.inl r)
      · rcases q y hyg d (eV_of h (hk y hyg) hd r) with t | t
        · exact .inr ((grp_iff h hs e2 hx d).2 t)
        · exact .inl (.inr t)
theorem next_ok {nv : List NV} {cur : List (I3 × NV)} {dn : List I3} (h : RdyIs (webL nv) cur dn) {os p r : List (List I3)} {g : List I3} (hs : OrdSem cur os) (e : os = p ++ g :: r) {x : I3} (hx : x ∈ g) : OkX nv dn p x :=
  (ok_iff h hs (r1 := []) e hx).2 fun y hy d hd => hs.dep p g r e y hy d hd
/-- The first one whose group may come next is of the next group. -/
theorem next_grp {nv : List NV} {cur : List (I3 × NV)} {dn : List I3} (h : RdyIs (webL nv) cur dn) {os p r : List (List I3)} (hs : OrdSem cur os) (e : os = p ++ r) {rl : List I3} (hrl : Rises rl) (hm : ∀ x, x ∈ rl ↔ x ∈ keysV cur) {i : Nat} {x : I3} (hi : rl[i]? = some x) (hok : OkX nv dn p x) (hno : ∀ (j : Nat) (y : I3), j < i → rl[j]? = some y → ¬ OkX nv dn p y) : ∃ g r', r = g :: r' ∧ x ∈ g := by
  have hx : x ∈ os.flatten := (hs.mem x).2 ((hm x).1 (List.mem_iff_getElem?.2 ⟨i, hi⟩))
  rw [e, List.flatten_append, List.mem_append] at hx
  have hxr := hx.resolve_left hok.1.2
  cases r with
  | nil => cases hxr
  | cons g r' =>
    refine ⟨g, r', rfl, ?_⟩
    rw [List.flatten_cons, List.mem_append] at hxr
    rcases hxr with q | q
    · exact q
    · exfalso
      obtain ⟨hh, h1, h2⟩ := List.mem_flatten.1 q
      obtain ⟨s, t, et⟩ := List.append_of_mem h1
      have e2 : os = p ++ ((g :: s) ++ hh :: t) := by rw [e, et]; simp
      have hok2 := (ok_iff h hs e2 h2).1 hok
      obtain ⟨a, ha, hal⟩ := hs.lst p g r' e hh h1 hok2
      have hax := hal x h2
      have hak : a ∈ keysV cur := (hs.mem a).1 (by rw [e]; exact mem_mid ha)
      obtain ⟨j, hj⟩ := List.mem_iff_getElem?.1 ((hm a).2 hak)
      obtain ⟨l1, q1⟩ := List.getElem?_eq_some_iff.1 hj
      obtain ⟨l2, q2⟩ := List.getElem?_eq_some_iff.1 hi
      have hp := List.pairwise_iff_getElem.1 (show rl.Pairwise (fun a b => ltI a b = true) from hrl)
      rcases Nat.lt_trichotomy j i with q | q | q
      · exact hno j a q hj (next_ok h hs e ha)
      · subst q
        rw [q1] at q2
        subst q2
        rw [ltI_irrefl] at hax
        cases hax
      · have := hp i j l2 l1 q
        rw [q1, q2, ltI_asymm hax] at this
        cases this
theorem next_none {nv : List NV} {cur : List (I3 × NV)} {dn : List I3} (h : RdyIs (webL nv) cur dn) {os p r : List (List I3)} (hs : OrdSem cur os) (e : os = p ++ r) {rl : List I3} (hm : ∀ x, x ∈ rl ↔ x ∈ keysV cur) (hno : ∀ (j : Nat) (y : I3), j < rl.length → rl[j]? = some y → ¬ OkX nv dn p y) : r = [] := by
  cases r with
  | nil => rfl
  | cons g r' =>
    exfalso
    have hne := (hs.srt g (by rw [e]; simp)).1
    obtain ⟨a, ha⟩ := List.exists_mem_of_ne_nil g hne
    have hak : a ∈ keysV cur := (hs.mem a).1 (by rw [e]; exact mem_mid ha)
    obtain ⟨j, hj⟩ := List.mem_iff_getElem?.1 ((hm a).2 hak)
    exact hno j a (List.getElem?_eq_some_iff.1 hj).1 hj (next_ok h hs e ha)
/-- Sorted, it is the next group. -/
theorem srt_is {nv : List NV} {cur : List (I3 × NV)} {dn : List I3} (h : RdyIs (webL nv) cur dn) {os p r : List (List I3)} {g : List I3} (hs : OrdSem cur os) (e : os = p ++ g :: r) {x : I3} (hx : x ∈ g) {G R : List I3} (hG : ∀ y, y ∈ G ↔ GrpM nv dn x y) (hR : SrtIs nv G R) : R = g := by
  have hk : ∀ z ∈ g, z ∈ keysV cur := fun z hz => (hs.mem z).1 (by rw [e]; exact mem_mid hz)
  refine ltG_uniq (webL nv) hR.srt ?_ fun y => by rw [hR.mem, hG, grp_iff h hs e hx]
  have q := (hs.srt g (by rw [e]; simp)).2
  refine List.Pairwise.imp_of_mem (fun {a b} ha hb r => ?_) q
  rw [ltG_iff] at r ⊢
  unfold sqOf at r ⊢
  rwa [(key_in h (hk a ha)).2.2, (key_in h (hk b hb)).2.2] at r
/-- What Order keeps: who is ready, who is done by now, and the groups. -/
structure ORow (w0 : World) (vr vn vo : Value) (rl nw : List I3) (ts : List Tr) (p : List (List I3)) (w : World) : Prop where
  x : Below w0.heap.size w0 w
  rr : IK.Own w w0.heap.size vr rl
  nn : IK.Own w w0.heap.size vn nw
  oo : SK.Own w w0.heap.size vo ts
  len : ts.length = p.length
  ins : ∀ (j : Nat) (t : Tr) (l : List I3), ts[j]? = some t → p[j]? = some l → IK.Own w w0.heap.size (trV t) l
  fr : ∀ q, vn.ownBlock = some q → vr.ownBlock ≠ some q
  fi : ∀ t ∈ ts, ∀ q, vn.ownBlock = some q → (trV t).ownBlock ≠ some q
theorem ORow.below {w0 : World} {vr vn vo : Value} {rl nw : List I3} {ts : List Tr} {p : List (List I3)} {w w' : World} (h : ORow w0 vr vn vo rl nw ts p w) (hb : Below w.heap.size w w') : ORow w0 vr vn vo rl nw ts p w' :=
  ⟨h.x.trans (hb.mono h.x.size), h.rr.below hb, h.nn.below hb, h.oo.below hb, h.len, fun j t l h1 h2 => (h.ins j t l h1 h2).below hb, h.fr, h.fi⟩
theorem ORow.now {w0 : World} {vr vn vo vn' : Value} {rl nw nw' : List I3} {ts : List Tr} {p : List (List I3)} {w w' : World} (h : ORow w0 vr vn vo rl nw ts p w) (ho : IK.Own w' w0.heap.size vn' nw') (hb : Below w0.heap.size w w') (hg : w.grownBy w' vn.ownBlock) (hn : Next w vn vn') : ORow w0 vr vn' vo rl nw' ts p w' := by
  have keep : ∀ {P : Program} {α : Type} {K : Knd P α} {v : Value} {l : List α}, K.Own w w0.heap.size v l → (∀ q, vn.ownBlock = some q → v.ownBlock ≠ some q) → K.Own w' w0.heap.size v l := fun hv hf =>
    hv.keepB fun q hq => hg.block q (hv.blk q hq).1 (fun e => hf q e.symm hq)
  have far : ∀ {P : Program} {α : Type} {K : Knd P α} {v : Value} {l : List α}, K.Own w w0.heap.size v l → (∀ q, vn.ownBlock = some q → v.ownBlock ≠ some q) → ∀ q, vn'.ownBlock = some q → v.ownBlock ≠ some q := fun hv hf q hq e => by
    rcases hn q hq with r | r
    · exact hf q r e
    · have := (hv.blk q e).1; omega
  have hfo : ∀ q, vn.ownBlock = some q → vo.ownBlock ≠ some q := row_far h.nn h.oo (by decide)
  refine ⟨h.x.trans hb, keep h.rr h.fr, ho, keep h.oo hfo, h.len, fun j t l h1 h2 => keep (h.ins j t l h1 h2) (h.fi t (List.mem_iff_getElem?.2 ⟨j, h1⟩)), far h.rr h.fr, fun t ht => ?_⟩
  obtain ⟨j, hj⟩ := List.mem_iff_getElem?.1 ht
  have hjp : j < p.length := by rw [← h.len]; exact (List.getElem?_eq_some_iff.1 hj).1
  exact far (h.ins j t _ hj (List.getElem?_eq_getElem hjp)) (h.fi t ht)
theorem ORow.out {w0 : World} {vr vn vo vo' : Value} {rl nw l : List I3} {ts : List Tr} {t : Tr} {p : List (List I3)} {w w' : World} (h : ORow w0 vr vn vo rl nw ts p w) (ht : IK.Own w w0.heap.size (trV t) l) (hf : ∀ q, vn.ownBlock = some q → (trV t).ownBlock ≠ some q) (ho : SK.Own w' w0.heap.size vo' (ts ++ [t])) (hb : Below w0.heap.size w w') (hg : w.grownBy w' vo.ownBlock) : ORow w0 vr vn vo' rl nw (ts ++ [t]) (p ++ [l]) w' := by
  have keep : ∀ {v : Value} {l : List I3}, IK.Own w w0.heap.size v l → IK.Own w' w0.heap.size v l := fun {v l} hv =>
    hv.keepB fun q hq => hg.block q (hv.blk q hq).1 (fun e => row_far h.oo hv (by decide) q e.symm hq)
  refine ⟨h.x.trans hb, keep h.rr, keep h.nn, ho, by simp [h.len], fun j u k h1 h2 => ?_, h.fr, fun u hu => ?_⟩
  · by_cases e : j < ts.length
    · rw [List.getElem?_append_left e] at h1
      rw [List.getElem?_append_left (by rw [← h.len]; exact e)] at h2
      exact keep (h.ins j u k h1 h2)
    · have hj : j = ts.length := by have := (List.getElem?_eq_some_iff.1 h1).1; simp at this; omega
      subst hj
      rw [List.getElem?_append_right (Nat.le_refl _)] at h1
      rw [h.len, List.getElem?_append_right (Nat.le_refl _)] at h2
      simp at h1 h2
      subst h1
      subst h2
      exact keep ht
  · rcases List.mem_append.1 hu with q | q
    · exact h.fi u q
    · simp at q
      subst q
      exact hf
theorem ORow.rows {w0 : World} {vr vn vo : Value} {rl nw : List I3} {ts : List Tr} {p : List (List I3)} {w : World} (h : ORow w0 vr vn vo rl nw ts p w) (hl : p.length ≤ 100000) : RowsAt w vo p := by
  obtain ⟨a, c, ev⟩ := h.oo.slice
  have hrd := h.oo.rd
  subst ev
  refine ⟨a, c, by rw [h.len], hl, fun j hj => ?_⟩
  have hjr : j < ts.length := by rw [h.len]; exact hj
  obtain ⟨-, g, off, ha, hg, hc⟩ := hrd.at (by intro e; rw [e] at hjr; simp at hjr)
  have q := hc j hjr 0 _ rfl
  have e1 : off + j * SK.k + 0 = off + j := by show off + j * 1 + 0 = off + j; omega
  rw [e1, getD_at hjr] at q
  exact ⟨g, off, ts[j].1, ts[j].2.1, ts[j].2.2, ha, hg, q, (h.ins j ts[j] p[j] (List.getElem?_eq_getElem hjr) (List.getElem?_eq_getElem hj)).rd⟩
theorem len_groups {l : List (List I3)} (h : ∀ g ∈ l, g ≠ []) : l.length ≤ l.flatten.length := by
  induction l with
  | nil => exact Nat.le_refl _
  | cons g l ih =>
    have h1 := ih fun k hk => h k (List.mem_cons_of_mem _ hk)
    have h2 : 0 < g.length := List.length_pos_iff.2 (h g (List.mem_cons_self ..))
    rw [List.flatten_cons, List.length_append, List.length_cons]
    omega
theorem ord_few {nv : List NV} {cur : List (I3 × NV)} {dn : List I3} (h : RdyIs (webL nv) cur dn) {os : List (List I3)} (hs : OrdSem cur os) : os.length ≤ os.flatten.length ∧ os.flatten.length ≤ nv.length := by
  refine ⟨len_groups fun g hg => (hs.srt g hg).1, ?_⟩
  have q := len_sub (k := idsN nv) hs.nd fun x hx => (key_in h ((hs.mem x).1 hx)).1
  simpa [idsN] using q
end Go.Proofs.Ytlckjpjcfalfnaa
namespace Go.Proofs.Ytlckjpjcfalfnaa
open Go.RowKit Go.Sort
open Go.WideMaps
set_option linter.unusedSimpArgs false
set_option linter.unusedVariables false
set_option maxRecDepth 100000

def OrdR (os : List (List I3)) (w : World) (e : Ending) (w' : World) : Prop := ∃ v, Hid (e = .returned v) ∧ RowsAt w' v os ∧ Below w.heap.size w w'
/-- A dependency is done by now, or is of the group. -/
def okD (nw G : List I3) (d : I3) : Bool := hasI nw d || hasI G d
theorem all_take {l : List I3} {k : Nat} {x : I3} {f : I3 → Bool} (h : l[k]? = some x) : (l.take (k + 1)).all f = ((l.take k).all f && f x) := by
  rw [take_snoc h, List.all_append]
  simp
theorem own0 {w : World} {base : Nat} {v : Value} {l : List I3} (h : IK.Own w base v l) (hne : l ≠ []) : ∃ g c, v = .slice (some ⟨g, 0, none⟩) l.length c := by
  rcases h.2 with ⟨_, r⟩ | ⟨g, cap, cur, r, _⟩
  · exact absurd (List.eq_nil_of_length_eq_zero r) hne
  · exact ⟨g, cap, r⟩
set_option maxHeartbeats 16000000 in
theorem order12_any {w : World} {v vd : Value} {nv : List NV} {dn : List I3} (h : GrIn w v vd nv dn) {cur : List (I3 × NV)} {os : List (List I3)} (hri : RdyIs (webL nv) cur dn) (hs : OrdSem cur os) :
    Calls Try.prog 15 #[v, vd] w (OrdR os w) := by
  have HFind : Hid (∀ x1 x2 x3 W, Below w.heap.size w W → Calls Try.prog 35 #[v, .agg #[.int .i64 x1, .int .i64 x2, .int .i64 x3]] W fun e w' => ∃ k : Int, Hid (e = .returned (.int .i64 k)) ∧ Hid (FndIs nv (x1, x2, x3) k) ∧ Below W.heap.size W w') := Lib.hid fun x1 x2 x3 W hW => rfindN_any (h.row.below hW) (by have := h.few.few; omega) x1 x2 x3
  have HReady := Lib.hid (ready12_any h)
  have HGroup : Hid (∀ x1 x2 x3 W, Below w.heap.size w W → Calls Try.prog 34 #[v, .agg #[.int .i64 x1, .int .i64 x2, .int .i64 x3], vd] W (fun e w' => ∃ G v', Hid (e = .returned v') ∧ Hid (GrpIs nv dn (x1, x2, x3) G) ∧ IK.Own w' W.heap.size v' G ∧ Below W.heap.size W w')) := Lib.hid fun x1 x2 x3 W hW => group12_any (h.below hW) x1 x2 x3
  have HSorted : Hid (∀ vg G W, Below w.heap.size w W → IK.Rd W vg G → G.Nodup → (∀ x ∈ G, x ∈ idsN nv) → G.length ≤ 200 → Calls Try.prog 36 #[v, vg] W (fun e w' => ∃ R v', Hid (e = .returned v') ∧ Hid (SrtIs nv G R) ∧ IK.Own w' W.heap.size v' R ∧ Below W.heap.size W w')) := Lib.hid fun vg G W hW h1 h2 h3 h4 => sorted12_any (h.below hW) h1 h2 h3 h4
  obtain ⟨av, cv, hv, -, -⟩ := h.row.el
  obtain ⟨ad, cd, hd⟩ := h.don.slice
  subst hv
  subst hd
  obtain ⟨N, hN⟩ : ∃ N, nv.length = N := ⟨_, rfl⟩
  obtain ⟨Nd, hNd⟩ : ∃ N, dn.length = N := ⟨_, rfl⟩
  have HN := Lib.hid hN
  rw [hN] at h HFind HReady HGroup HSorted ⊢
  rw [hNd] at h HReady HGroup ⊢
  have HNd := Lib.hid hNd
  have HG := Lib.hid h
  have HRi := Lib.hid hri
  have HS := Lib.hid hs
  have HFew := Lib.hid (ord_few hri hs)
  have hN14 : N ≤ 14 := by rw [← hN]; exact h.few.few
  have hNd14 : Nd ≤ 14 := by rw [← hNd]; exact h.few.over
  have HD0 := Lib.hid h.don
  have HL0 : Hid (([] : List I3).length + dn.length ≤ 1000000) := Lib.hid (by simp; omega)
  clear h hN hNd hri hs
  go_enter Try.func15, Try.ntmps15
  go_wp2_with fail
  refine HReady.out.mono ?_
  rintro e w1 ⟨S, hS, vr, he, hrr, hb⟩
  rw [he.out]
  have HRm : Hid (∀ x, x ∈ clnI S ↔ x ∈ keysV cur) := Lib.hid fun x => by rw [mem_clnI, hS.out x, rdy_iff HRi.out x]
  have HRs : Hid (Rises (clnI S)) := Lib.hid (clnI_rises S)
  obtain ⟨rl, hrl⟩ : ∃ q, clnI S = q := ⟨_, rfl⟩
  rw [hrl] at HRm HRs hrr
  have HRk : Hid (∀ x ∈ rl, x ∈ idsN nv ∧ RdyX nv dn x) := Lib.hid fun x hx => (rdy_iff HRi.out x).1 ((HRm.out x).1 hx)
  obtain ⟨ar, cr, er⟩ := hrr.slice
  obtain ⟨nr, hnr⟩ : ∃ q, rl.length = q := ⟨_, rfl⟩
  rw [hnr] at er
  subst er
  have HRr := Lib.hid hrr
  have HB1 := Lib.hid hb
  have HNr := Lib.hid hnr
  have hnr14 : nr ≤ 14 := by
    have q := len_sub (k := idsN nv) HRs.out.nodup fun x hx => (HRk.out x hx).1
    simp only [idsN, List.length_map] at q
    have := HN.out
    omega
  have HD1 := Lib.hid (HD0.out.below hb)
  have hz1 := hb.size
  clear he hS hrr hb hrl hnr HReady
  go_wp2_with (first
    | (refine IK.app (by kernel_rfl) (.tmp 18) (.tmp 19) rfl w1.heap.size (.slice none 0 0) [] rfl (Knd.Own.nil _ _) (.slice ad Nd cd) dn rfl HD1.out HL0.out (Nat.le_refl _) ?_
       intro v2 w2 ho hb hgr hn
       rw [List.nil_append] at ho
       obtain ⟨a2, c2, e2⟩ := ho.slice
       rw [HNd.out] at e2
       subst e2
       have HR2 : Hid (ORow w (.slice ar nr cr) (.slice a2 Nd c2) (.slice none 0 0) rl dn [] [] w2) := Lib.hid ⟨HB1.out.trans (hb.mono hz1), HRr.out.below hb, ho.base hz1, Knd.Own.nil _ _, rfl, (fun j t l h1 => by simp at h1), (fun q h1 h2 => by
         have r1 := ho.from q h1
         have r2 := (HRr.out.blk q h2).1
         omega), (fun t ht => by cases ht)⟩
       clear ho hb hgr hn)
    | fail)
  clear HD1 HB1 HRr HL0
  go_loopw [5, 7] (fun so sn wr => ∃ (oa : Option Addr) (no co : Nat) (na : Option Addr) (nn cn : Nat) (nw : List I3) (ts : List Tr) (p r : List (List I3)), so = .slice oa no co ∧ sn = .slice na nn cn ∧ no ≤ 14 ∧ Hid (ts.length = no) ∧ Hid (nw.length = nn) ∧ Hid (os = p ++ r) ∧ Hid (∀ x, x ∈ nw ↔ x ∈ dn ∨ x ∈ p.flatten) ∧ Hid (nn = Nd + p.flatten.length) ∧ Hid (ORow w (.slice ar nr cr) (.slice na nn cn) (.slice oa no co) rl nw ts p wr)) (fun so _ _ => 20 - slen so)
  case atStart => exact ⟨none, 0, 0, _, Nd, _, dn, [], [], os, rfl, rfl, Nat.zero_le _, Lib.hid rfl, HNd, Lib.hid rfl, Lib.hid (fun x => by simp), Lib.hid (by simp), HR2⟩
  case round =>
    clear HR2
    obtain ⟨oa, no, co, na, nn, cn, nw, ts, p, r, rfl, rfl, hno14, HTs, HNw, HOs, HMn, HLn, HR⟩ := hrel
    go_wp2_with fail
    go_loopw [5, 7, 8, 9] (fun so sn sa si wr => ∃ (oa : Option Addr) (no' co : Nat) (na : Option Addr) (nn cn : Nat) (nw : List I3) (ts : List Tr) (p r : List (List I3)) (kk : Int) (i : Nat), so = .slice oa no' co ∧ sn = .slice na nn cn ∧ sa = .int .i64 kk ∧ si = .int .i64 i ∧ i ≤ nr ∧ no' ≤ 14 ∧ Hid (ts.length = no') ∧ Hid (nw.length = nn) ∧ Hid (os = p ++ r) ∧ Hid (∀ x, x ∈ nw ↔ x ∈ dn ∨ x ∈ p.flatten) ∧ Hid (nn = Nd + p.flatten.length) ∧ Hid (ORow w (.slice ar nr cr) (.slice na nn cn) (.slice oa no' co) rl nw ts p wr) ∧ ((kk = -1 ∧ no' = no ∧ Hid (∀ (j : Nat) (y : I3), j < i → rl[j]? = some y → ¬ OkX nv dn p y)) ∨ (0 ≤ kk ∧ no' = no + 1))) (fun _ _ _ si _ => nr - (intOf si).toNat)
    case atStart => exact ⟨_, no, _, _, nn, _, nw, ts, p, r, -1, 0, rfl, rfl, rfl, rfl, Nat.zero_le _, hno14, HTs, HNw, HOs, HMn, HLn, HR, .inl ⟨rfl, rfl, Lib.hid (fun j y hj => absurd hj (Nat.not_lt_zero _))⟩⟩
    case round =>
      clear HTs HNw HOs HMn HLn HR
      obtain ⟨oa, no', co, na, nn, cn, nw, ts, p, r, kk, i, rfl, rfl, rfl, rfl, hi, hno', HTs, HNw, HOs, HMn, HLn, HR, hcase⟩ := hrel
      by_cases hin : i < nr
      · have inr1 : (i : Int) < (nr : Int) := by omega
        have inr2 : decide ((i : Int) < (nr : Int)) = true := decide_eq_true inr1
        have inr3 : decide (i < nr) = true := decide_eq_true (by omega)
        rcases hcase with ⟨rfl, rfl, HNo⟩ | ⟨hkk, hnn⟩
        · obtain ⟨e0, gr, or', hda, hgr, q1, q2, q3, hjl⟩ := idCell HR.out.rr.rd i hin
          obtain ⟨⟨x1, x2, x3⟩, hX⟩ : ∃ X, rl.getD i (0, 0, 0) = X := ⟨_, rfl⟩
          rw [hX] at q1 q2 q3
          have HX : Hid (rl[i]? = some (x1, x2, x3)) := Lib.hid (by rw [← hX]; simp [List.getD, hjl])
          have HXm := Lib.hid (HRk.out (x1, x2, x3) (List.mem_iff_getElem?.2 ⟨i, HX.out⟩))
          have HCx : Hid (∀ wq, Below wr.heap.size wr wq → wq.cell? ⟨gr, or' + i * 3, none⟩ = some (.int .i64 x1) ∧ wq.cell? ⟨gr, or' + i * 3 + 1, none⟩ = some (.int .i64 x2) ∧ wq.cell? ⟨gr, or' + i * 3 + 2, none⟩ = some (.int .i64 x3)) := Lib.hid fun wq hq => ⟨(hq.cell (p := ⟨gr, or' + i * 3, none⟩) hgr).trans q1, (hq.cell (p := ⟨gr, or' + i * 3 + 1, none⟩) hgr).trans q2, (hq.cell (p := ⟨gr, or' + i * 3 + 2, none⟩) hgr).trans q3⟩
          subst hda
          have hnn28 : nn ≤ 28 := by
            have h1 := HLn.out
            have h2 := HFew.out.2
            have h3 := congrArg (fun l => l.flatten.length) HOs.out
            simp only [List.flatten_append, List.length_append] at h3
            have := HN.out
            omega
          have hh0 := rhas_any (.slice na nn cn) nw x1 x2 x3 wr HR.out.nn.rd (by rw [HNw.out]; omega)
          obtain ⟨hz, hhz⟩ : ∃ q, hasI nw (x1, x2, x3) = q := ⟨_, rfl⟩
          rw [hhz] at hh0
          have HH0 := Lib.hid hh0
          have HHz := Lib.hid hhz
          clear e0 hX hjl hgr hh0 hhz
          go_wp2_with fail
          refine HH0.out.mono ?_
          rintro e w3 ⟨rfl, hb⟩
          have HR3 := Lib.hid (HR.out.below hb)
          obtain ⟨q1, q2, q3⟩ := HCx.out _ hb
          have HW3 := Lib.hid hb
          clear hb HR HH0
          cases hz with
          | true =>
            have HNo2 : Hid (∀ (j : Nat) (y : I3), j < i + 1 → rl[j]? = some y → ¬ OkX nv dn p y) := Lib.hid fun j y hj hy hok => by
              by_cases e : j = i
              · subst e
                rw [HX.out] at hy
                obtain rfl := Option.some.inj hy
                rcases (HMn.out _).1 ((hasI_iff _ _).1 HHz.out) with t | t
                · exact hok.1.1 t
                · exact hok.1.2 t
              · exact HNo.out j y (by omega) hy hok
            clear HNo HX HXm HCx q1 q2 q3 HHz HW3
            go_wp2_with fail
            go_roundw
            case rel => exact ⟨_, no', _, _, nn, _, nw, ts, p, r, -1, i + 1, rfl, rfl, rfl, by go_num, by omega, hno', HTs, HNw, HOs, HMn, HLn, HR3, .inl ⟨rfl, rfl, HNo2⟩⟩
            case measure => simp [intOf]; omega
          | false =>
            go_wp2_with fail
            have HXW3 := Lib.hid HR3.out.x
            refine (HGroup.out x1 x2 x3 w3 HXW3.out).mono ?_
            rintro e w4 ⟨G, vg, he, hGi, hgo, hb⟩
            rw [he.out]
            have hGne : G ≠ [] := fun e => by have q := (hGi.out.mem (x1, x2, x3)).2 (.inl rfl); rw [e] at q; cases q
            obtain ⟨gg, cg, eg⟩ := own0 hgo hGne
            obtain ⟨ng, hng⟩ : ∃ q, G.length = q := ⟨_, rfl⟩
            rw [hng] at eg
            subst eg
            have HGo := Lib.hid (hgo.base HXW3.out.size)
            have HGi := hGi
            have HNg := Lib.hid hng
            have hng200 : ng ≤ 197 := by rw [← hng]; exact hGi.out.few
            have HFg : Hid (∀ q, (Value.slice na nn cn).ownBlock = some q → (Value.slice (some ⟨gg, 0, none⟩) ng cg).ownBlock ≠ some q) := Lib.hid (fun q h1 h2 => by
              have r1 := (HR3.out.nn.blk q h1).1
              have r2 := hgo.from q h2
              omega)
            have HR4 := Lib.hid (HR3.out.below hb)
            have HGin : Hid (∀ y ∈ G, y ∈ idsN nv) := Lib.hid fun y hy => by
              rcases (HGi.out.mem y).1 hy with t | ⟨t1, t2, _⟩
              · rw [t]; exact HXm.out.1
              · exact (HXm.out.2.2 y t2).resolve_right t1
            have HGne := Lib.hid hGne
            clear he hGi hgo hb hGne hng q1 q2 q3 HR3 HXW3 HW3 HCx
            go_wp2_with fail
            go_loopw [11, 12] (fun sb sk wr => ∃ (k : Nat) (bb : Bool), sb = .bool bb ∧ sk = .int .i64 k ∧ k ≤ ng ∧ Hid (bb = (G.take k).all fun y => (stepsV (webL nv) y).all (okD nw G)) ∧ Hid (Below w4.heap.size w4 wr)) (fun _ sk _ => ng - (intOf sk).toNat)
            case atStart => exact ⟨0, true, rfl, rfl, Nat.zero_le _, Lib.hid (by simp), Lib.hid (Below.refl _ _)⟩
            case round =>
              obtain ⟨k, bb, rfl, rfl, hk, HBb, HBl⟩ := hrel
              by_cases hkg : k < ng
              · have kng1 : (k : Int) < (ng : Int) := by omega
                have kng2 : decide ((k : Int) < (ng : Int)) = true := decide_eq_true kng1
                have kng3 : decide (k < ng) = true := decide_eq_true (by omega)
                obtain ⟨e0, gk, ok', hda, hgk, q1, q2, q3, hjl⟩ := idCell (HGo.out.rd.below HBl.out) k hkg
                obtain ⟨⟨y1, y2, y3⟩, hY⟩ : ∃ X, G.getD k (0, 0, 0) = X := ⟨_, rfl⟩
                rw [hY] at q1 q2 q3
                have HY : Hid (G[k]? = some (y1, y2, y3)) := Lib.hid (by rw [← hY]; simp [List.getD, hjl])
                obtain ⟨rfl, rfl⟩ : gg = gk ∧ 0 = ok' := by simpa using hda
                have p1 := q1
                have p2 := q2
                have p3 := q3
                simp only [Nat.zero_add] at p1 p2 p3
                have HXl := Lib.hid (HR4.out.below HBl.out).x
                clear e0 hY hjl hda hgk
                go_wp2_with fail
                refine (HFind.out y1 y2 y3 wr HXl.out).mono ?_
                rintro e w5 ⟨kx, he, hfx, hb⟩
                rw [he.out]
                have HBl5 := Lib.hid (HBl.out.trans (hb.mono HBl.out.size))
                have HX5 := Lib.hid (HXl.out.trans (hb.mono HXl.out.size))
                have HFx := hfx.out
                obtain ⟨j, x, hjN, rfl, hxj, hxm, hst⟩ : ∃ (j : Nat) (n : NV), j < nv.length ∧ kx = (j : Int) ∧ nv[j]? = some n ∧ n ∈ nv ∧ stepsV (webL nv) (y1, y2, y3) = n.d.dl := by
                  rcases fnd_cases HG.out.one HFx with ⟨-, hni, -⟩ | ⟨j, x, r1, r2, r3, r4, r5, r6⟩
                  · exact absurd (HGin.out _ (List.mem_iff_getElem?.2 ⟨k, HY.out⟩)) hni
                  · exact ⟨j, x, r1, r2, r3, r5, r6⟩
                rw [HN.out] at hjN
                obtain ⟨x', g, off, hx', ha, hg, -, -, -, -, d4, hok⟩ := HG.out.row.cells HX5.out j hjN
                rw [hxj] at hx'
                obtain rfl := Option.some.inj hx'
                have hD14 : x.d.dl.length ≤ 14 := HG.out.few.steps x hxm
                subst ha
                obtain ⟨dl, hdl⟩ : ∃ q, x.d.dl = q := ⟨_, rfl⟩
                obtain ⟨D, hD⟩ : ∃ q, dl.length = q := ⟨_, rfl⟩
                have hrd := hok.2.2
                rw [hdl, hD] at d4 hrd
                rw [hdl] at hD14 hst
                rw [hD] at hD14
                obtain ⟨xa, hxa⟩ : ∃ q, x.a = q := ⟨_, rfl⟩
                obtain ⟨xc, hxc⟩ : ∃ q, x.c = q := ⟨_, rfl⟩
                rw [hxa, hxc] at d4 hrd
                have HRd := Lib.hid hrd
                have HD := Lib.hid hD
                have HSt := Lib.hid hst
                have jN1 : (j : Int) < (N : Int) := by omega
                have jN2 : decide ((j : Int) < (N : Int)) = true := decide_eq_true jN1
                have jN3 : decide (j < N) = true := decide_eq_true (by omega)
                clear hxa hxc hxj hxm hjN hok hdl hD hrd hst HFx hfx he hb hg q1 q2 q3 p1 p2 p3 HBl
                go_wp2_with fail
                clear jN1 jN2 jN3 d4
                go_loopw [11, 14] (fun sb sj wr => ∃ (m : Nat) (bc : Bool), sb = .bool bc ∧ sj = .int .i64 m ∧ m ≤ D ∧ Hid (bc = (bb && (dl.take m).all (okD nw G))) ∧ Hid (Below w4.heap.size w4 wr)) (fun _ sj _ => D - (intOf sj).toNat)
                case atStart => exact ⟨0, bb, rfl, rfl, Nat.zero_le _, Lib.hid (by simp), HBl5⟩
                case round =>
                  clear HBl5
                  obtain ⟨m, bc, rfl, rfl, hm, HBc, HBl⟩ := hrel
                  by_cases hmD : m < D
                  · have mD1 : (m : Int) < (D : Int) := by omega
                    have mD2 : decide ((m : Int) < (D : Int)) = true := decide_eq_true mD1
                    have mD3 : decide (m < D) = true := decide_eq_true (by omega)
                    obtain ⟨e0, g3, off3, hda, hg3, q1, q2, q3, hjl⟩ := idCell (HRd.out.below (HR4.out.below HBl.out).x) m hmD
                    obtain ⟨⟨z1, z2, z3⟩, hZ⟩ : ∃ X, dl.getD m (0, 0, 0) = X := ⟨_, rfl⟩
                    rw [hZ] at q1 q2 q3
                    have HAll : Hid ((dl.take (m + 1)).all (okD nw G) = ((dl.take m).all (okD nw G) && okD nw G (z1, z2, z3))) := Lib.hid (all_take (by rw [← hZ]; simp [List.getD, hjl]))
                    subst hda
                    clear e0 hZ hjl
                    cases bc with
                    | false =>
                      have HBn : Hid (false = (bb && (dl.take (m + 1)).all (okD nw G))) := Lib.hid (by rw [HAll.out, ← Bool.and_assoc, ← HBc.out]; simp)
                      clear HBc HAll q1 q2 q3 hg3
                      go_wp2_with fail
                      go_roundw
                      case rel => exact ⟨m + 1, false, rfl, by go_num, by omega, HBn, HBl⟩
                      case measure => simp [intOf]; omega
                    | true =>
                      have HBn : Hid (∀ q, okD nw G (z1, z2, z3) = q → q = (bb && (dl.take (m + 1)).all (okD nw G))) := Lib.hid (fun q hq => by rw [HAll.out, ← Bool.and_assoc, ← HBc.out, hq]; simp)
                      have HCz : Hid (∀ wq, Below wr.heap.size wr wq → wq.cell? ⟨g3, off3 + m * 3, none⟩ = some (.int .i64 z1) ∧ wq.cell? ⟨g3, off3 + m * 3 + 1, none⟩ = some (.int .i64 z2) ∧ wq.cell? ⟨g3, off3 + m * 3 + 2, none⟩ = some (.int .i64 z3)) := Lib.hid fun wq hq => ⟨(hq.cell (p := ⟨g3, off3 + m * 3, none⟩) hg3).trans q1, (hq.cell (p := ⟨g3, off3 + m * 3 + 1, none⟩) hg3).trans q2, (hq.cell (p := ⟨g3, off3 + m * 3 + 2, none⟩) hg3).trans q3⟩
                      have hh0 := rhas_any (.slice na nn cn) nw z1 z2 z3 wr (HR4.out.below HBl.out).nn.rd (by rw [HNw.out]; omega)
                      obtain ⟨hq0, hhq0⟩ : ∃ q, hasI nw (z1, z2, z3) = q := ⟨_, rfl⟩
                      rw [hhq0] at hh0
                      have HH0 := Lib.hid hh0
                      have HQ0 := Lib.hid hhq0
                      clear HBc HAll hg3 hh0 hhq0
                      go_wp2_with fail
                      refine HH0.out.mono ?_
                      rintro e w6 ⟨rfl, hb⟩
                      have HBl6 := Lib.hid (HBl.out.trans (hb.mono HBl.out.size))
                      obtain ⟨q1, q2, q3⟩ := HCz.out _ hb
                      clear hb HH0 HBl HCz
                      cases hq0 with
                      | true =>
                        have HBq : Hid (true = (bb && (dl.take (m + 1)).all (okD nw G))) := Lib.hid (HBn.out true (by unfold okD; rw [HQ0.out]; rfl))
                        clear HBn HQ0 q1 q2 q3
                        go_wp2_with fail
                        go_roundw
                        case rel => exact ⟨m + 1, true, rfl, by go_num, by omega, HBq, HBl6⟩
                        case measure => simp [intOf]; omega
                      | false =>
                        have hh1 := rhas_any (.slice (some ⟨gg, 0, none⟩) ng cg) G z1 z2 z3 w6 (HGo.out.rd.below HBl6.out) (by rw [HNg.out]; omega)
                        obtain ⟨hq1, hhq1⟩ : ∃ q, hasI G (z1, z2, z3) = q := ⟨_, rfl⟩
                        rw [hhq1] at hh1
                        have HH1 := Lib.hid hh1
                        have HBq : Hid (hq1 = (bb && (dl.take (m + 1)).all (okD nw G))) := Lib.hid (HBn.out hq1 (by unfold okD; rw [HQ0.out, hhq1]; rfl))
                        clear HBn HQ0 hh1 hhq1
                        go_wp2_with fail
                        refine HH1.out.mono ?_
                        rintro e w7 ⟨rfl, hb⟩
                        have HBl7 := Lib.hid (HBl6.out.trans (hb.mono HBl6.out.size))
                        clear hb HH1 HBl6 q1 q2 q3
                        go_wp2_with fail
                        go_roundw
                        case rel => exact ⟨m + 1, hq1, rfl, by go_num, by omega, HBq, HBl7⟩
                        case measure => simp [intOf]; omega
                  · obtain rfl : m = D := by omega
                    have mm1 : ¬ (m : Int) < (m : Int) := by omega
                    have mm2 : decide ((m : Int) < (m : Int)) = false := decide_eq_false mm1
                    have mm3 : decide (m < m) = false := decide_eq_false (by omega)
                    have HBn : Hid (bc = (G.take (k + 1)).all fun y => (stepsV (webL nv) y).all (okD nw G)) := Lib.hid (by
                      rw [all_take HY.out, ← HBb.out, HSt.out]
                      have q := HBc.out
                      rwa [List.take_of_length_le (by rw [HD.out]; exact Nat.le_refl _)] at q)
                    clear HBc HBb HY HSt HD HRd
                    go_wp2_with fail
                    go_roundw
                    case rel => exact ⟨k + 1, bc, rfl, by go_num, by omega, HBn, HBl⟩
                    case measure => simp [intOf]; omega
              · obtain rfl : k = ng := by omega
                have kk1 : ¬ (k : Int) < (k : Int) := by omega
                have kk2 : decide ((k : Int) < (k : Int)) = false := decide_eq_false kk1
                have kk3 : decide (k < k) = false := decide_eq_false (by omega)
                have HR5 := Lib.hid (HR4.out.below HBl.out)
                have HG5 := Lib.hid (HGo.out.below HBl.out)
                have HOk : Hid (bb = true ↔ OkX nv dn p (x1, x2, x3)) := Lib.hid (by
                  have q := HBb.out
                  rw [List.take_of_length_le (by rw [HNg.out]; exact Nat.le_refl _)] at q
                  rw [q, List.all_eq_true]
                  have hnx : ¬ ((x1, x2, x3) ∈ dn ∨ (x1, x2, x3) ∈ p.flatten) := fun t => (hasI_false _ _).1 HHz.out ((HMn.out _).2 t)
                  unfold OkX
                  constructor
                  · intro t
                    refine ⟨⟨fun u => hnx (.inl u), fun u => hnx (.inr u)⟩, fun y hy d hd => ?_⟩
                    have t2 := List.all_eq_true.1 (t y ((HGi.out.mem y).2 hy)) d hd
                    unfold okD at t2
                    rw [Bool.or_eq_true, hasI_iff, hasI_iff] at t2
                    exact t2.imp (HMn.out d).1 (HGi.out.mem d).1
                  · rintro ⟨_, t⟩ y hy
                    rw [List.all_eq_true]
                    intro d hd
                    unfold okD
                    rw [Bool.or_eq_true, hasI_iff, hasI_iff]
                    exact (t y ((HGi.out.mem y).1 hy) d hd).imp (HMn.out d).2 (HGi.out.mem d).2)
                clear HBb HBl HR4 HGo HHz
                cases bb with
                | false =>
                  have HNo2 : Hid (∀ (j : Nat) (y : I3), j < i + 1 → rl[j]? = some y → ¬ OkX nv dn p y) := Lib.hid fun j y hj hy hok => by
                    by_cases e : j = i
                    · subst e
                      rw [HX.out] at hy
                      obtain rfl := Option.some.inj hy
                      have := HOk.out.2 hok
                      cases this
                    · exact HNo.out j y (by omega) hy hok
                  clear HNo HX HXm HOk HG5 HFg
                  go_wp2_with fail
                  go_roundw
                  case rel => exact ⟨_, no', _, _, nn, _, nw, ts, p, r, -1, i + 1, rfl, rfl, rfl, by go_num, by omega, hno', HTs, HNw, HOs, HMn, HLn, HR5, .inl ⟨rfl, rfl, HNo2⟩⟩
                  case measure => simp [intOf]; omega
                | true =>
                  obtain ⟨g, r', hr', hxg⟩ := next_grp HRi.out HS.out HOs.out HRs.out HRm.out HX.out (HOk.out.1 rfl) HNo.out
                  have hos : os = p ++ g :: r' := by rw [HOs.out, hr']
                  have HGg : Hid (∀ R, SrtIs nv G R → R = g) := Lib.hid fun R hR => srt_is HRi.out HS.out hos hxg HGi.out.mem hR
                  have HGm : Hid (∀ y, y ∈ G ↔ y ∈ g) := Lib.hid fun y => by rw [HGi.out.mem y]; exact grp_iff HRi.out HS.out hos hxg y
                  have HOs2 : Hid (os = (p ++ [g]) ++ r') := Lib.hid (by rw [hos]; simp)
                  have HPg : Hid (g.length = G.length) := Lib.hid (by
                    have hgn : g.Nodup := List.Pairwise.imp (fun {a b} q e => by subst e; rw [(ltG_swo cur).irrefl] at q; cases q) (HS.out.srt g (by rw [hos]; simp)).2
                    exact Nat.le_antisymm (len_sub hgn fun y hy => (HGm.out y).2 hy) (len_sub HGi.out.nd fun y hy => (HGm.out y).1 hy))
                  have hno2 : no' + 1 ≤ 14 := by
                    have h1 := HFew.out
                    have h2 := congrArg List.length hos
                    have h3 := HR5.out.len
                    have h4 := HTs.out
                    have h5 := HN.out
                    rw [List.length_append, List.length_cons] at h2
                    omega
                  have HX5 := Lib.hid HR5.out.x
                  clear hr' hos hxg HOk HNo HX HXm HOs
                  go_wp2_with fail
                  refine (HSorted.out _ G wr HX5.out HG5.out.rd HGi.out.nd HGin.out (by rw [HNg.out]; omega)).mono ?_
                  rintro e w8 ⟨R, v8, he, hR, ho, hb⟩
                  rw [he.out]
                  have hRg := HGg.out R hR.out
                  subst hRg
                  obtain ⟨a8, c8, e8⟩ := ho.slice
                  obtain ⟨n8, hn8⟩ : ∃ q, R.length = q := ⟨_, rfl⟩
                  rw [hn8] at e8
                  subst e8
                  have HR8 := Lib.hid (HR5.out.below hb)
                  have HG8 := Lib.hid (HG5.out.below hb)
                  have HT8 : Hid (IK.Own w8 w.heap.size (trV (a8, n8, c8)) R) := Lib.hid (ho.base HX5.out.size)
                  have HF8 : Hid (∀ q, (Value.slice na nn cn).ownBlock = some q → (trV (a8, n8, c8)).ownBlock ≠ some q) := Lib.hid (fun q h1 h2 => by
                    have r1 := (HR5.out.nn.blk q h1).1
                    have r2 := ho.from q h2
                    omega)
                  have HL8 : Hid (ts.length + 1 ≤ 1000000) := Lib.hid (by rw [HTs.out]; omega)
                  have HT1 : Hid ((ts ++ [(a8, n8, c8)]).length = no' + 1) := Lib.hid (by rw [List.length_append, HTs.out]; rfl)
                  have hz8 := HR8.out.x.size
                  clear he hR ho hb hn8 HR5 HG5 HGg HSorted
                  go_wp2_with (refine SK.app2 rfl _ _ rfl w.heap.size (.slice oa no' co) ts rfl ?own _ 1 [(a8, n8, c8)] rfl ?rd (by simp) HL8.out ?bs ?_)
                  case own => exact HR8.out.oo.below ((Below.refl _ _).alloc (Nat.le_refl _) _)
                  case rd => exact SK.rd_boxAt (a8, n8, c8) _ 1 _ _ (by simp)
                  case bs => first | omega | (simp; omega) | fail
                  intro v9 w9 ho hb hg hnx
                  have hba : ∀ o, Below w8.heap.size w8 (w8.alloc o) := fun o => (Below.refl _ _).alloc (Nat.le_refl _) _
                  have HR9 : Hid (ORow w (.slice (some ⟨gr, or', none⟩) nr cr) (.slice na nn cn) v9 rl nw (ts ++ [(a8, n8, c8)]) (p ++ [R]) w9) := Lib.hid ((HR8.out.below (hba _)).out (HT8.out.below (hba _)) HF8.out ho hb hg)
                  have HG9 : Hid (IK.Own w9 w.heap.size (.slice (some ⟨gg, 0, none⟩) k cg) G) := Lib.hid (by
                    have key : ∀ wa, Below w8.heap.size w8 wa → wa.grownBy w9 (Value.slice oa no' co).ownBlock → IK.Own w9 w.heap.size (.slice (some ⟨gg, 0, none⟩) k cg) G := fun wa hwa hga => (HG8.out.below hwa).keepB fun q hq => hga.block q ((HG8.out.below hwa).blk q hq).1 (fun e => row_far (HR8.out.below hwa).oo (HG8.out.below hwa) (by decide) q e.symm hq)
                    exact key _ (hba _) hg)
                  obtain ⟨a9, c9, e9⟩ := ho.slice
                  rw [HT1.out] at e9
                  subst e9
                  have HL9 : Hid (nw.length + G.length ≤ 1000000) := Lib.hid (by rw [HNw.out, HNg.out]; omega)
                  have HN1 : Hid ((nw ++ G).length = nn + k) := Lib.hid (by rw [List.length_append, HNw.out, HNg.out])
                  have hz9 := HR9.out.x.size
                  clear ho hb hg hnx hba HR8 HG8 HT8 HF8 HL8
                  go_wp2_with (first
                    | (refine IK.app2 (by kernel_rfl) (.tmp 92) (.tmp 93) rfl w.heap.size (.slice na nn cn) nw rfl HR9.out.nn gg cg G (by rw [HNg.out]; rfl) (by rw [HNg.out]; exact HG9.out.rd) HGne.out HL9.out hz9 ?_
                       intro v10 w10 ho hb hg hnx
                       obtain ⟨a10, c10, e10⟩ := ho.slice
                       rw [HN1.out] at e10
                       subst e10
                       have HR10 := Lib.hid (HR9.out.now ho hb hg hnx)
                       clear ho hb hg hnx)
                    | fail)
                  have HMn2 : Hid (∀ x, x ∈ nw ++ G ↔ x ∈ dn ∨ x ∈ (p ++ [R]).flatten) := Lib.hid fun x => by
                    rw [List.mem_append, HMn.out x, HGm.out x, List.flatten_append, List.mem_append]
                    simp [or_assoc]
                  have HLn2 : Hid (nn + k = Nd + (p ++ [R]).flatten.length) := Lib.hid (by
                    rw [HLn.out, List.flatten_append, List.length_append]
                    have := HPg.out
                    have := HNg.out
                    simp
                    omega)
                  clear HR9 HG9 HL9 HGm HMn HLn HPg
                  go_wp2_with fail
                  go_roundw
                  case rel => exact ⟨_, no' + 1, _, _, nn + k, _, _, _, p ++ [R], r', (i : Int), i + 1, rfl, rfl, rfl, by go_num, by omega, hno2, HT1, HN1, HOs2, HMn2, HLn2, HR10, .inr ⟨by omega, rfl⟩⟩
                  case measure => simp [intOf]; omega
        · have k1 : ¬ kk < 0 := by omega
          have k2 : decide (kk < 0) = false := decide_eq_false k1
          subst hnn
          go_wp2_with fail
          go_roundw
          case rel => exact ⟨_, no + 1, _, _, nn, _, nw, ts, p, r, rfl, rfl, hno', HTs, HNw, HOs, HMn, HLn, HR⟩
          case measure => simp [slen]; omega
      · obtain rfl : i = nr := by omega
        have ii1 : ¬ (i : Int) < (i : Int) := by omega
        have ii2 : decide ((i : Int) < (i : Int)) = false := decide_eq_false ii1
        have ii3 : decide (i < i) = false := decide_eq_false (by omega)
        rcases hcase with ⟨rfl, rfl, HNo⟩ | ⟨hkk, hnn⟩
        · have HE : Hid (RowsAt wr (.slice oa no' co) os) := Lib.hid (by
            have hr0 := next_none HRi.out HS.out HOs.out HRm.out (fun j y hj hy => HNo.out j y (by rw [← HNr.out]; exact hj) hy)
            have h2 := HOs.out
            rw [hr0, List.append_nil] at h2
            rw [h2]
            exact HR.out.rows (by rw [← HR.out.len, HTs.out]; omega))
          have HX2 := Lib.hid HR.out.x
          clear HNo
          go_wp2
          go_ret
          exact ⟨_, Lib.hid rfl, HE.out, HX2.out⟩
        · have k1 : ¬ kk < 0 := by omega
          have k2 : decide (kk < 0) = false := decide_eq_false k1
          subst hnn
          go_wp2_with fail
          go_roundw
          case rel => exact ⟨_, no + 1, _, _, nn, _, nw, ts, p, r, rfl, rfl, hno', HTs, HNw, HOs, HMn, HLn, HR⟩
          case measure => simp [slen]; omega
end Go.Proofs.Ytlckjpjcfalfnaa
namespace Go.Proofs.Ytlckjpjcfalfnaa
open Go.RowKit Go.Sort
open Go.WideMaps
set_option linter.unusedSimpArgs false
set_option linter.unusedVariables false
set_option maxRecDepth 100000

set_option maxHeartbeats 2000000 in
theorem order_bad {w : World} {v vd : Value} {nv : List NV} (h : NRow w v nv) (hl : nv.length ≤ 1000) (hv : decide (nv.length ≤ 1024 ∧ (nv.map (·.d.id)).Nodup) = false) :
    Calls Try.prog 13 #[v, vd] w (fun e w' => e = .returned (.slice none 0 0) ∧ Below w.heap.size w w') := by
  have HVal : Hid (∀ W, Below w.heap.size w W → Calls Try.prog 16 #[v] W fun e w' => e = .returned (.bool false) ∧ Below W.heap.size W w') := Lib.hid fun W hW => by
    have q := gvalid_any (h.below hW) (by omega)
    rwa [hv] at q
  clear h hv
  go_enter Try.func13, Try.ntmps13
  go_wp2_with fail
  have HB0 : Hid (Below w.heap.size w w) := Lib.hid (Below.refl _ _)
  refine (HVal.out w HB0.out).mono ?_
  rintro e w1 ⟨rfl, hb⟩
  have HB1 := Lib.hid (HB0.out.trans (hb.mono HB0.out.size))
  clear hb HVal HB0
  go_wp2
  go_ret
  exact ⟨rfl, HB1.out⟩
set_option maxHeartbeats 2000000 in
theorem ready_bad {w : World} {v vd : Value} {nv : List NV} (h : NRow w v nv) (hl : nv.length ≤ 1000) (hv : decide (nv.length ≤ 1024 ∧ (nv.map (·.d.id)).Nodup) = false) :
    Calls Try.prog 20 #[v, vd] w (fun e w' => e = .returned (.slice none 0 0) ∧ Below w.heap.size w w') := by
  have HVal : Hid (∀ W, Below w.heap.size w W → Calls Try.prog 16 #[v] W fun e w' => e = .returned (.bool false) ∧ Below W.heap.size W w') := Lib.hid fun W hW => by
    have q := gvalid_any (h.below hW) (by omega)
    rwa [hv] at q
  clear h hv
  go_enter Try.func20, Try.ntmps20
  go_wp2_with fail
  have HB0 : Hid (Below w.heap.size w w) := Lib.hid (Below.refl _ _)
  refine (HVal.out w HB0.out).mono ?_
  rintro e w1 ⟨rfl, hb⟩
  have HB1 := Lib.hid (HB0.out.trans (hb.mono HB0.out.size))
  clear hb HVal HB0
  go_wp2
  go_ret
  exact ⟨rfl, HB1.out⟩
set_option maxHeartbeats 2000000 in
theorem reach_bad {w : World} {v vd : Value} {nv : List NV} (h : NRow w v nv) (hl : nv.length ≤ 1000) (hv : decide (nv.length ≤ 1024 ∧ (nv.map (·.d.id)).Nodup) = false) (a1 a2 a3 : Int) :
    Calls Try.prog 18 #[v, .agg #[.int .i64 a1, .int .i64 a2, .int .i64 a3]] w (fun e w' => e = .returned (.slice none 0 0) ∧ Below w.heap.size w w') := by
  have HVal : Hid (∀ W, Below w.heap.size w W → Calls Try.prog 16 #[v] W fun e w' => e = .returned (.bool false) ∧ Below W.heap.size W w') := Lib.hid fun W hW => by
    have q := gvalid_any (h.below hW) (by omega)
    rwa [hv] at q
  clear h hv
  go_enter Try.func18, Try.ntmps18
  go_wp2_with fail
  obtain ⟨W0, hW0⟩ : ∃ W0, w.alloc (.cells #[.int .i64 a1, .int .i64 a2, .int .i64 a3] 25) = W0 := ⟨_, rfl⟩
  have HB0 : Hid (Below w.heap.size w W0) := Lib.hid (by rw [← hW0]; exact (Below.refl _ _).alloc (Nat.le_refl _) _)
  try rw [hW0]
  clear hW0
  refine (HVal.out W0 HB0.out).mono ?_
  rintro e w1 ⟨rfl, hb⟩
  have HB1 := Lib.hid (HB0.out.trans (hb.mono HB0.out.size))
  clear hb HVal HB0
  go_wp2
  go_ret
  exact ⟨rfl, HB1.out⟩
set_option maxHeartbeats 2000000 in
theorem ready12_bad {w : World} {v vd : Value} {nv : List NV} (h : NRow w v nv) (hl : nv.length ≤ 1000) (hv : decide (nv.length ≤ 1024 ∧ (nv.map (·.d.id)).Nodup) = false) :
    Calls Try.prog 21 #[v, vd] w (fun e w' => e = .returned (.slice none 0 0) ∧ Below w.heap.size w w') := by
  have HVal : Hid (∀ W, Below w.heap.size w W → Calls Try.prog 14 #[v] W fun e w' => e = .returned (.bool false) ∧ Below W.heap.size W w') := Lib.hid fun W hW => by
    have q := rvalidN_any (h.below hW) (by omega)
    rwa [hv] at q
  clear h hv
  go_enter Try.func21, Try.ntmps21
  go_wp2_with fail
  have HB0 : Hid (Below w.heap.size w w) := Lib.hid (Below.refl _ _)
  refine (HVal.out w HB0.out).mono ?_
  rintro e w1 ⟨rfl, hb⟩
  have HB1 := Lib.hid (HB0.out.trans (hb.mono HB0.out.size))
  clear hb HVal HB0
  go_wp2
  go_ret
  exact ⟨rfl, HB1.out⟩
set_option maxHeartbeats 2000000 in
theorem reach12_bad {w : World} {v vd : Value} {nv : List NV} (h : NRow w v nv) (hl : nv.length ≤ 1000) (hv : decide (nv.length ≤ 1024 ∧ (nv.map (·.d.id)).Nodup) = false) (a1 a2 a3 : Int) :
    Calls Try.prog 19 #[v, .agg #[.int .i64 a1, .int .i64 a2, .int .i64 a3]] w (fun e w' => e = .returned (.slice none 0 0) ∧ Below w.heap.size w w') := by
  have HVal : Hid (∀ W, Below w.heap.size w W → Calls Try.prog 14 #[v] W fun e w' => e = .returned (.bool false) ∧ Below W.heap.size W w') := Lib.hid fun W hW => by
    have q := rvalidN_any (h.below hW) (by omega)
    rwa [hv] at q
  clear h hv
  go_enter Try.func19, Try.ntmps19
  go_wp2_with fail
  obtain ⟨W0, hW0⟩ : ∃ W0, w.alloc (.cells #[.int .i64 a1, .int .i64 a2, .int .i64 a3] 25) = W0 := ⟨_, rfl⟩
  have HB0 : Hid (Below w.heap.size w W0) := Lib.hid (by rw [← hW0]; exact (Below.refl _ _).alloc (Nat.le_refl _) _)
  try rw [hW0]
  clear hW0
  refine (HVal.out W0 HB0.out).mono ?_
  rintro e w1 ⟨rfl, hb⟩
  have HB1 := Lib.hid (HB0.out.trans (hb.mono HB0.out.size))
  clear hb HVal HB0
  go_wp2
  go_ret
  exact ⟨rfl, HB1.out⟩

theorem flat_take {ls : List (List I3)} {k : Nat} {l : List I3} (h : ls[k]? = some l) : (ls.take (k + 1)).flatten = (ls.take k).flatten ++ l := by
  rw [take_snoc h, List.flatten_append]
  simp
theorem flat_le {ls : List (List I3)} (k : Nat) : (ls.take k).flatten.length ≤ ls.flatten.length := by
  have h := congrArg (fun l => l.flatten.length) (List.take_append_drop k ls)
  simp only [List.flatten_append, List.length_append] at h
  omega
set_option maxHeartbeats 4000000 in
theorem flat12_any {w : World} {v : Value} {ls : List (List I3)} (h : RowsAt w v ls) (hs : ls.flatten.length ≤ 1000) : Calls Try.prog 23 #[v] w (RowP ls.flatten w) := by
  obtain ⟨a, c, hv, hl, hel⟩ := h
  subst hv
  obtain ⟨N, hN⟩ : ∃ N, ls.length = N := ⟨_, rfl⟩
  have HN := Lib.hid hN
  have HEl := Lib.hid hel
  rw [hN] at hl ⊢
  clear hN hel
  go_enter Try.func23, Try.ntmps23
  go_wp2_with fail
  go_loopw [3, 4] (fun t i wr => ∃ (ta : Option Addr) (T tc k : Nat), t = .slice ta T tc ∧ i = .int .i64 k ∧ k ≤ N ∧ Hid (((ls.take k).flatten).length = T) ∧ Hid (IK.Own wr w.heap.size (.slice ta T tc) (ls.take k).flatten) ∧ Hid (Below w.heap.size w wr)) (fun _ i _ => N - (intOf i).toNat)
  case atStart => exact ⟨none, 0, 0, 0, rfl, rfl, Nat.zero_le _, Lib.hid rfl, Lib.hid (Knd.Own.nil _ _), Lib.hid (Below.refl _ _)⟩
  case round =>
    obtain ⟨ta, T, tc, k, rfl, rfl, hk, HT, HO, HB⟩ := hrel
    by_cases hlt : k < N
    · have kN1 : (k : Int) < (N : Int) := by omega
      have kN2 : decide ((k : Int) < (N : Int)) = true := decide_eq_true kN1
      have kN3 : decide (k < N) = true := decide_eq_true (by omega)
      have hkl : k < ls.length := by rw [HN.out]; exact hlt
      obtain ⟨g, off, b, n', c', ha, hg, hc, hrd⟩ := HEl.out k hkl
      have hlk : ls[k]? = some ls[k] := List.getElem?_eq_getElem hkl
      obtain ⟨l, hll⟩ : ∃ q, ls[k] = q := ⟨_, rfl⟩
      rw [hll] at hrd hlk
      have c0 := (HB.out.cell (p := ⟨g, off + k, none⟩) hg).trans hc
      subst ha
      have HF : Hid ((ls.take (k + 1)).flatten = (ls.take k).flatten ++ l) := Lib.hid (flat_take hlk)
      have HT1 : Hid ((ls.take (k + 1)).flatten.length = T + l.length) := Lib.hid (by rw [HF.out, List.length_append, HT.out])
      have HL1 : Hid ((ls.take k).flatten.length + l.length ≤ 1000000) := Lib.hid (by
        have q := flat_le (ls := ls) (k + 1)
        rw [HF.out, List.length_append] at q
        omega)
      have HRd := Lib.hid (hrd.below HB.out)
      have hz := HB.out.size
      obtain ⟨S, hS⟩ : ∃ q, (ls.take k).flatten = q := ⟨_, rfl⟩
      obtain ⟨S2, hS2⟩ : ∃ q, (ls.take (k + 1)).flatten = q := ⟨_, rfl⟩
      obtain ⟨m, hm⟩ : ∃ q, l.length = q := ⟨_, rfl⟩
      have hO := HO.out
      have HS2 := Lib.hid hS2
      rw [hS] at HF HL1 hO
      rw [hS2] at HF HT1
      rw [hm] at HT1 HL1
      have HO1 := Lib.hid hO
      have HL2 : Hid (S.length + l.length ≤ 1000000) := Lib.hid (by rw [hm]; exact HL1.out)
      clear hkl hg hc hrd hlk hll HO hO hS hS2 hm HL1 HT
      go_wp2_with (first
        | (refine IK.app (by kernel_rfl) (.tmp 11) (.tmp 15) rfl w.heap.size (.slice ta T tc) S rfl HO1.out _ l rfl HRd.out HL2.out hz ?_
           intro v7 w7 ho hb hg hn
           rw [← HF.out] at ho
           obtain ⟨a7, c7, e7⟩ := ho.slice
           rw [HT1.out] at e7
           subst e7
           have HO7 : Hid (IK.Own w7 w.heap.size (.slice a7 (T + m) c7) (ls.take (k + 1)).flatten) := Lib.hid (by rw [HS2.out]; exact ho)
           have HT7 : Hid ((ls.take (k + 1)).flatten.length = T + m) := Lib.hid (by rw [HS2.out]; exact HT1.out)
           have HB7 := Lib.hid (HB.out.trans hb)
           clear ho hb hg hn HB HO1 HT1 HS2)
        | fail)
      clear c0 hz
      go_wp2_with fail
      go_roundw
      case rel => exact ⟨a7, T + m, c7, k + 1, rfl, by go_num, by omega, HT7, HO7, HB7⟩
      case measure => simp [intOf]; omega
    · obtain rfl : k = N := by omega
      have kk1 : ¬ (k : Int) < (k : Int) := by omega
      have kk2 : decide ((k : Int) < (k : Int)) = false := decide_eq_false kk1
      have kk3 : decide (k < k) = false := decide_eq_false (by omega)
      have HO2 := HO.out
      rw [List.take_of_length_le (by rw [HN.out]; exact Nat.le_refl _)] at HO2
      have HO3 := Lib.hid HO2
      clear HO HO2
      go_wp2
      go_ret
      exact ⟨_, Lib.hid rfl, HO3.out, HB.out⟩
end Go.Proofs.Ytlckjpjcfalfnaa
