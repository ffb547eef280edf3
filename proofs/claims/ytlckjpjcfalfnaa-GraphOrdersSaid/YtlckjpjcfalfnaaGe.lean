/-
  Graph, plainly: what can't be done is taken out.
-/
import Derived.Test.YtlckjpjcfalfnaaGq
namespace Go.Proofs.Ytlckjpjcfalfnaa
open Go.RowKit Go.Sort
open Go.WideMaps
set_option linter.unusedSimpArgs false
set_option linter.unusedVariables false
set_option maxRecDepth 100000

/-- Taking out all that wait for one that there is not: W d y: y waits for d. -/
structure DI (W : I3 → I3 → Prop) (ll cur : List (I3 × NV)) (lost : List I3) (ex : Option (I3 × List I3)) : Prop where
  sub : ∀ x n, getV cur x = some n → getV ll x = some n
  gr : ∀ T : I3 → Prop, (∀ y, T y → y ∈ keysV ll ∧ ∀ d, W d y → T d) → ∀ y, T y → y ∈ keysV cur
  ls : ∀ x ∈ lost, x ∉ keysV cur
  cl : ∀ d, d ∉ keysV cur → d ∉ lost → (∀ y, W d y → y ∉ keysV cur) ∨ ∃ p, ex = some (d, p)
  ex' : ∀ d p, ex = some (d, p) → d ∉ keysV cur ∧ ∀ y ∈ p, y ∉ keysV cur
theorem DI.start {W : I3 → I3 → Prop} {ll : List (I3 × NV)} {lost : List I3} (h1 : ∀ x ∈ lost, x ∉ keysV ll) (h2 : ∀ d y, W d y → d ∉ keysV ll → d ∈ lost) : DI W ll ll lost none :=
  ⟨fun _ _ h => h, fun T hT y hy => (hT y hy).1, h1, fun d hd hn => .inl fun y hy => absurd (h2 d y hy hd) hn, fun _ _ e => by cases e⟩
theorem DI.pop {W : I3 → I3 → Prop} {ll cur : List (I3 × NV)} {lost : List I3} {x : I3} (h : DI W ll cur (lost ++ [x]) none) : DI W ll cur lost (some (x, [])) := by
  refine ⟨h.sub, h.gr, fun y hy => h.ls y (List.mem_append_left _ hy), fun d hd hn => ?_, fun d p e => ?_⟩
  · by_cases q : d = x
    · subst q; exact .inr ⟨_, rfl⟩
    · rcases h.cl d hd (by simp [hn, q]) with r | ⟨_, e⟩
      · exact .inl r
      · cases e
  · cases e
    exact ⟨h.ls x (by simp), fun y hy => by cases hy⟩
theorem DI.skip {W : I3 → I3 → Prop} {ll cur : List (I3 × NV)} {lost p : List I3} {x y : I3} (h : DI W ll cur lost (some (x, p))) (hy : y ∉ keysV cur) : DI W ll cur lost (some (x, p ++ [y])) := by
  refine ⟨h.sub, h.gr, h.ls, fun d hd hn => ?_, fun d q e => ?_⟩
  · rcases h.cl d hd hn with r | ⟨_, e⟩
    · exact .inl r
    · cases e; exact .inr ⟨_, rfl⟩
  · cases e
    refine ⟨(h.ex' x p rfl).1, fun z hz => ?_⟩
    rcases List.mem_append.1 hz with r | r
    · exact (h.ex' x p rfl).2 z r
    · simp at r; subst r; exact hy
theorem mem_keys_del {α : Type} {l : List (I3 × α)} {x y : I3} : y ∈ keysV (delV l x) ↔ y ∈ keysV l ∧ y ≠ x := by
  rw [keys_delV, List.mem_filter]
  simp
theorem DI.del {W : I3 → I3 → Prop} {ll cur : List (I3 × NV)} {lost p : List I3} {x y : I3} (h : DI W ll cur lost (some (x, p))) (hn : (keysV cur).Nodup) (hw : W x y) : DI W ll (delV cur y) (lost ++ [y]) (some (x, p ++ [y])) := by
  have hx := (h.ex' x p rfl).1
  refine ⟨fun z n hz => ?_, fun T hT z hz => ?_, fun z hz => ?_, fun d hd hn2 => ?_, fun d q e => ?_⟩
  · rw [getV_del hn] at hz
    split at hz
    · cases hz
    · exact h.sub z n hz
  · rw [mem_keys_del]
    refine ⟨h.gr T hT z hz, ?_⟩
    rintro rfl
    exact hx (h.gr T hT x ((hT z hz).2 x hw))
  · rw [mem_keys_del]
    rintro ⟨q1, q2⟩
    rcases List.mem_append.1 hz with r | r
    · exact h.ls z r q1
    · simp at r; exact q2 r
  · have hd2 : d ∉ keysV cur := fun q => by
      by_cases e : d = y
      · subst e; exact hn2 (by simp)
      · exact hd (mem_keys_del.2 ⟨q, e⟩)
    rcases h.cl d hd2 (fun q => hn2 (List.mem_append_left _ q)) with r | ⟨_, e⟩
    · exact .inl fun z hz q => r z hz (mem_keys_del.1 q).1
    · cases e; exact .inr ⟨_, rfl⟩
  · cases e
    refine ⟨fun q => hx (mem_keys_del.1 q).1, fun z hz q => ?_⟩
    rcases List.mem_append.1 hz with r | r
    · exact (h.ex' x p rfl).2 z r (mem_keys_del.1 q).1
    · simp at r; exact (mem_keys_del.1 q).2 r
theorem DI.fin {W : I3 → I3 → Prop} {ll cur : List (I3 × NV)} {lost p : List I3} {x : I3} (h : DI W ll cur lost (some (x, p))) (hp : ∀ y, W x y → y ∈ p) : DI W ll cur lost none := by
  refine ⟨h.sub, h.gr, h.ls, fun d hd hn => ?_, fun _ _ e => by cases e⟩
  rcases h.cl d hd hn with r | ⟨q, e⟩
  · exact .inl r
  · cases e
    exact .inl fun y hy => (h.ex' x p rfl).2 y (hp y hy)
theorem DI.closed {W : I3 → I3 → Prop} {ll cur : List (I3 × NV)} (h : DI W ll cur [] none) : ∀ y ∈ keysV cur, ∀ d, W d y → d ∈ keysV cur := by
  intro y hy d hd
  apply Classical.byContradiction
  intro q
  rcases h.cl d q (by simp) with r | ⟨_, e⟩
  · exact r y hd hy
  · cases e
theorem Knd.Rd.outA {P : Program} {α : Type} {K : Knd P α} {w w' : World} {v : Value} {l : List α} {bk : Nat} (h : K.Rd w v l) (hg : w.grownBy w' (some bk)) (hne : ∀ g cs T fr, w.heap[g]? = some (.cells cs T fr) → g ≠ bk) : K.Rd w' v l := by
  obtain ⟨a, c, e, h1, h2, h3⟩ := h
  refine ⟨a, c, e, h1, h2, ?_⟩
  rcases h3 with q | ⟨g, off, ha, hg2, hc⟩
  · exact .inl q
  · by_cases hl : l = []
    · exact .inl hl
    · refine .inr ⟨g, off, ha, Nat.lt_of_lt_of_le hg2 hg.size, fun t u hu => ?_⟩
      have h5 := hc t u hu
      refine (World.cell?_of_block (hg.block g hg2 ?_)).trans h5
      intro e5
      have e6 : g = bk := Option.some.inj e5
      cases hh : w.heap[g]? with
      | none => simp [World.cell?, hh] at h5
      | some o =>
        cases o with
        | cells cs T fr => exact hne g cs T fr hh e6
        | _ => simp [World.cell?, hh] at h5
/-- Who waits for whom, by a map of rows. -/
def WtBy (wl : List (I3 × SV)) (d y : I3) : Prop := ∃ s, getV wl d = some s ∧ y ∈ s.ids
end Go.Proofs.Ytlckjpjcfalfnaa
