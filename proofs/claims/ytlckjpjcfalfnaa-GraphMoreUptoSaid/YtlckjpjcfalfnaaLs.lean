/-
  Graph, plainly: done in steps it is done the same.
-/
import Derived.Test.YtlckjpjcfalfnaaLd
namespace Go.Proofs.Ytlckjpjcfalfnaa
open Go.RowKit Go.Sort
open Go.WideMaps
set_option linter.unusedSimpArgs false
set_option linter.unusedVariables false
set_option maxRecDepth 100000

theorem ltG_cur {web c1 c2 : List (I3 × NV)} {d1 d2 : List I3} (h1 : RdyIs web c1 d1) (h2 : RdyIs web c2 d2) {x y : I3} (hx : x ∈ keysV c1) (hx2 : x ∈ keysV c2) (hy : y ∈ keysV c1) (hy2 : y ∈ keysV c2) : ltG c1 x y = ltG c2 x y := by
  have e : ∀ z, z ∈ keysV c1 → z ∈ keysV c2 → sqOf c1 z = sqOf c2 z := fun z hz hz2 => by
    obtain ⟨n, q⟩ := mem_keys.1 hz
    obtain ⟨n2, q2⟩ := mem_keys.1 hz2
    unfold sqOf ndOf
    rw [q, q2]
    have r := (h1.sub z n q).1
    have r2 := (h2.sub z n2 q2).1
    rw [r] at r2
    injection r2 with r2
    rw [r2]
  unfold ltG
  rw [e x hx hx2, e y hy hy2]
/-- What is ahead of a cut leads to nothing behind it. -/
theorem OrdSem.cut {web : List (I3 × NV)} {os : List (List I3)} (h : OrdSem web os) {A B : List (List I3)} (eA : os = A ++ B) : ∀ c ∈ A.flatten, ∀ d ∈ eV web c, d ∈ A.flatten := fun c hc d hd => by
  obtain ⟨t, ht, hct⟩ := List.mem_flatten.1 hc
  obtain ⟨a1, a2, e1⟩ := List.append_of_mem ht
  rw [e1] at eA ⊢
  rw [List.append_assoc, List.cons_append] at eA
  rcases h.dep a1 t (a2 ++ B) eA c hct d hd with q | q
  · simp [q]
  · rw [List.flatten_append]; exact List.mem_append_left _ q
theorem ord_steps {web cur cur' : List (I3 × NV)} {A R : List (List I3)} (hr : RdyIs web cur []) (h : OrdSem cur (A ++ R)) (hr' : RdyIs web cur' A.flatten) : OrdSem cur' R := by
  have hnd := h.nd
  rw [List.flatten_append, List.nodup_append] at hnd
  have hmem : ∀ x, x ∈ keysV cur ↔ x ∈ A.flatten ∨ x ∈ R.flatten := fun x => by rw [← h.mem, List.flatten_append, List.mem_append]
  have hcl : ∀ x ∈ keysV cur, ∀ d ∈ stepsV web x, d ∈ keysV cur := fun x hx d hd => (hr.closed x hx d hd).elim (fun q => by cases q) id
  have hec : ∀ x ∈ keysV cur, ∀ d, d ∈ eV cur x ↔ d ∈ stepsV web x := fun x hx d => by
    rw [mem_eV, cur_steps hr hx]
    exact ⟨fun q => q.1, fun q => ⟨q, by rw [getV_isSome, hasI_iff]; exact hcl x hx d q⟩⟩
  have hks : ∀ x, x ∈ keysV cur' ↔ x ∈ R.flatten := fun x => by
    constructor
    · intro hx
      have hxA : x ∉ A.flatten := by
        obtain ⟨n, q⟩ := mem_keys.1 hx
        exact (hr'.sub x n q).2
      have hxc : x ∈ keysV cur := by
        refine hr.great (fun y => y ∈ keysV cur' ∨ y ∈ A.flatten) (fun y hy => ?_) x (.inl hx)
        rcases hy with hy | hy
        · obtain ⟨n, q⟩ := mem_keys.1 hy
          refine ⟨mem_keys.2 ⟨n, (hr'.sub y n q).1⟩, by simp, fun d hd => .inr ?_⟩
          rcases hr'.closed y hy d hd with r | r
          · exact .inr r
          · exact .inl r
        · have hyc := (hmem y).2 (.inl hy)
          obtain ⟨n, q⟩ := mem_keys.1 hyc
          exact ⟨mem_keys.2 ⟨n, (hr.sub y n q).1⟩, by simp, fun d hd => .inr (.inr (h.cut rfl y hy d ((hec y hyc d).2 hd)))⟩
      rcases (hmem x).1 hxc with q | q
      · exact absurd q hxA
      · exact q
    · intro hx
      refine hr'.great (fun y => y ∈ R.flatten) (fun y hy => ?_) x hx
      have hyc := (hmem y).2 (.inr hy)
      obtain ⟨n, q⟩ := mem_keys.1 hyc
      refine ⟨mem_keys.2 ⟨n, (hr.sub y n q).1⟩, fun r => hnd.2.2 y r y hy rfl, fun d hd => ?_⟩
      exact (hmem d).1 (hcl y hyc d hd)
  have hkc : ∀ x ∈ keysV cur', x ∈ keysV cur := fun x hx => (hmem x).2 (.inr ((hks x).1 hx))
  have hee : ∀ x ∈ keysV cur', ∀ d, d ∈ eV cur' x ↔ d ∈ eV cur x ∧ d ∈ keysV cur' := fun x hx d => by
    rw [mem_eV, cur_steps hr' hx, getV_isSome, hasI_iff, hec x (hkc x hx)]
  have hgk : ∀ g ∈ R, ∀ x ∈ g, x ∈ keysV cur' := fun g hg x hx => (hks x).2 (List.mem_flatten.2 ⟨g, hg, hx⟩)
  refine ⟨hnd.2.1, fun x => (hks x).symm, fun g hg => ?_, fun g hg x hx y hy => ?_, fun o1 g o2 e x hx d hd => ?_, fun o1 g o2 e t ht hp => ?_⟩
  · obtain ⟨q1, q2⟩ := h.srt g (List.mem_append_right _ hg)
    refine ⟨q1, q2.imp_of_mem fun {a b} ha hb q => ?_⟩
    rw [← ltG_cur hr hr' (hkc a (hgk g hg a ha)) (hgk g hg a ha) (hkc b (hgk g hg b hb)) (hgk g hg b hb)]
    exact q
  · obtain ⟨r1, r2, er⟩ := List.append_of_mem hg
    have eg : A ++ R = (A ++ r1) ++ g :: r2 := by rw [er]; simp
    rcases h.mutu g (List.mem_append_right _ hg) x hx y hy with q | q
    · exact .inl q
    · right
      have hin : ∀ z, Rch (eV cur) x z → (z = y ∨ Rch (eV cur) z y) → z ∈ g := fun z hxz hzy => by
        rcases hzy with e | hzy
        · rw [e]; exact hy
        · rcases h.mutu g (List.mem_append_right _ hg) y hy x hx with e | hyx
          · rw [e] at hzy; exact h.class' eg hx hxz hzy
          · exact h.class' eg hx hxz (hzy.trans hyx)
      have go : ∀ z, Rch (eV cur) x z → (z = y ∨ Rch (eV cur) z y) → Rch (eV cur') x z := fun z hxz => by
        induction hxz with
        | @one z hz =>
          intro hzy
          exact .one ((hee x (hgk g hg x hx) z).2 ⟨hz, hgk g hg z (hin z (.one hz) hzy)⟩)
        | @more w z hw hz ih =>
          intro hzy
          have hwy : Rch (eV cur) w y := by
            rcases hzy with e | e
            · rw [← e]; exact .one hz
            · exact (Rch.one hz).trans e
          have hwg := hin w hw (.inr hwy)
          exact .more (ih (.inr hwy)) ((hee w (hgk g hg w hwg) z).2 ⟨hz, hgk g hg z (hin z (.more hw hz) hzy)⟩)
      exact go y q (.inl rfl)
  · have hxk := hgk g (by rw [e]; simp) x hx
    obtain ⟨q1, q2⟩ := (hee x hxk d).1 hd
    rcases h.dep (A ++ o1) g o2 (by rw [e]; simp) x hx d q1 with r | r
    · exact .inl r
    · rw [List.flatten_append, List.mem_append] at r
      rcases r with r | r
      · exact absurd ((hks d).1 q2) (fun s => hnd.2.2 d r d s rfl)
      · exact .inr r
  · refine h.lst (A ++ o1) g o2 (by rw [e]; simp) t ht fun x hx d hd => ?_
    have hxk := hgk t (by rw [e]; simp [ht]) x hx
    have hdc := (hmem d).1 (hcl x (hkc x hxk) d ((hec x (hkc x hxk) d).1 hd))
    rcases hdc with r | r
    · exact .inr (by rw [List.flatten_append]; exact List.mem_append_left _ r)
    · rcases hp x hx d ((hee x hxk d).2 ⟨hd, (hks d).2 r⟩) with s | s
      · exact .inl s
      · exact .inr (by rw [List.flatten_append]; exact List.mem_append_right _ s)
end Go.Proofs.Ytlckjpjcfalfnaa
