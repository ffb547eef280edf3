/-
  Graph: ready.
-/
import Derived.Test.YtlckjpjcfalfnaaGd
namespace Go.Proofs.Ytlckjpjcfalfnaa
open Go.RowKit Go.Sort
open Go.WideMaps
set_option linter.unusedSimpArgs false
set_option linter.unusedVariables false
set_option maxRecDepth 100000

/-- A map of rows, each of its own, and no two of one block. -/
structure WM (w : World) (bt base : Nat) (wl : List (I3 × SV)) : Prop where
  mv : MV encS w bt wl
  own : ∀ e ∈ wl, IK.Own w base (encS e.2) e.2.ids
  ok : ∀ e ∈ wl, okL e.2.ids
  apart : ∀ e ∈ wl, ∀ e' ∈ wl, e.1 ≠ e'.1 → ∀ k, (encS e.2).ownBlock = some k → (encS e'.2).ownBlock ≠ some k
theorem WM.below {w w' : World} {bt base : Nat} {wl : List (I3 × SV)} (h : WM w bt base wl) (hb : Below w.heap.size w w') : WM w' bt base wl :=
  ⟨h.mv.below hb, fun e he => (h.own e he).below hb, h.ok, h.apart⟩
theorem WM.out {w w' : World} {bt base k : Nat} {wl : List (I3 × SV)} (h : WM w bt base wl) (hg : w.grownBy w' (some k)) (hne : ∀ g cs T fr, w.heap[g]? = some (.cells cs T fr) → g ≠ k) (hb : bt ≠ k) : WM w' bt base wl :=
  ⟨h.mv.kept hg (by simpa using hb), fun e he => (h.own e he).outA hg hne, h.ok, h.apart⟩
/-- The nodes that can be done: what they lead to is done, or among them; and there are no more. -/
structure RdyIs (web cur : List (I3 × NV)) (dn : List I3) : Prop where
  sub : ∀ x n, getV cur x = some n → getV web x = some n ∧ x ∉ dn
  closed : ∀ y ∈ keysV cur, ∀ d ∈ stepsV web y, d ∈ dn ∨ d ∈ keysV cur
  great : ∀ T : I3 → Prop, (∀ y, T y → y ∈ keysV web ∧ y ∉ dn ∧ ∀ d ∈ stepsV web y, d ∈ dn ∨ T d) → ∀ y, T y → y ∈ keysV cur
theorem mem_keys {α : Type} {l : List (I3 × α)} {x : I3} : x ∈ keysV l ↔ ∃ n, getV l x = some n := by
  rw [← Option.isSome_iff_exists, getV_isSome, hasI_iff]
theorem rdy_of {web ll cur : List (I3 × NV)} {wl : List (I3 × SV)} {dn : List I3} (h : DI (WtBy wl) ll cur [] none) (hl : ∀ x n, getV ll x = some n ↔ x ∉ dn ∧ getV web x = some n) (hw : ∀ d y, WtBy wl d y ↔ (y ∈ keysV web ∧ y ∉ dn ∧ d ∈ stepsV web y ∧ d ∉ dn)) : RdyIs web cur dn := by
  have hs : ∀ x n, getV cur x = some n → getV web x = some n ∧ x ∉ dn := fun x n q => by
    have := (hl x n).1 (h.sub x n q)
    exact ⟨this.2, this.1⟩
  refine ⟨hs, fun y hy d hd => ?_, fun T hT y hy => ?_⟩
  · by_cases q : d ∈ dn
    · exact .inl q
    · obtain ⟨n, hn⟩ := mem_keys.1 hy
      have := hs y n hn
      exact .inr (h.closed y hy d ((hw d y).2 ⟨mem_keys.2 ⟨n, this.1⟩, this.2, hd, q⟩))
  · refine h.gr T (fun z hz => ?_) y hy
    obtain ⟨h1, h2, h3⟩ := hT z hz
    obtain ⟨n, hn⟩ := mem_keys.1 h1
    refine ⟨mem_keys.2 ⟨n, (hl z n).2 ⟨h2, hn⟩⟩, fun d hd => ?_⟩
    have := (hw d z).1 hd
    rcases h3 d this.2.2.1 with r | r
    · exact absurd r this.2.2.2
    · exact r
def ReadyP (web : List (I3 × NV)) (dn : List I3) (w : World) (e : Ending) (w' : World) : Prop := ∃ b cur, Hid (e = .returned (.agg #[.map (some b)])) ∧ MV ndV w' b cur ∧ RdyIs web cur dn ∧ w.heap.size ≤ b ∧ Below w.heap.size w w'
theorem mem_keys_put {α : Type} {l : List (I3 × α)} {x y : I3} {v : α} : y ∈ keysV (putV l x v) ↔ y ∈ keysV l ∨ y = x := by
  unfold putV
  rw [keysV, List.map_append, List.mem_append, ← keysV, mem_keys_del]
  by_cases e : y = x <;> simp [e]
/-- What ready keeps. -/
structure RyS (w0 : World) (B0 bw bo : Nat) (web : List (I3 × NV)) (ol : List (I3 × Unit)) (w : World) : Prop where
  x : Below w0.heap.size w0 w
  b2 : Bk w B0 55 [.map (some bw)]
  b4 : Bk w (B0 + 1) 55 [.map none]
  web : MV ndV w bw web
  ov : MV encU w bo ol
theorem RyS.below {w0 w w' : World} {B0 bw bo : Nat} {web : List (I3 × NV)} {ol : List (I3 × Unit)} (h : RyS w0 B0 bw bo web ol w) (hb : Below w.heap.size w w') : RyS w0 B0 bw bo web ol w' :=
  ⟨h.x.trans (hb.mono h.x.size), h.b2.below hb, h.b4.below hb, h.web.below hb, h.ov.below hb⟩
theorem RyS.row {w0 w w' : World} {B0 bw bo N : Nat} {web : List (I3 × NV)} {ol : List (I3 × Unit)} (h : RyS w0 B0 bw bo web ol w) (hb : Below N w w') (h1 : w0.heap.size ≤ N) (h2 : B0 + 1 < N) (h3 : bw < N) (h4 : bo < N) : RyS w0 B0 bw bo web ol w' :=
  ⟨h.x.trans (hb.mono h1), h.b2.on hb (by omega), h.b4.on hb h2, h.web.on hb h3, h.ov.on hb h4⟩
theorem RyS.out {w0 w w' : World} {B0 bw bo k : Nat} {web : List (I3 × NV)} {ol : List (I3 × Unit)} (h : RyS w0 B0 bw bo web ol w) (hg : w.grownBy w' (some k)) (h1 : w0.heap.size ≤ k) (h2 : B0 ≠ k) (h2' : B0 + 1 ≠ k) (h3 : bw ≠ k) (h4 : bo ≠ k) : RyS w0 B0 bw bo web ol w' :=
  ⟨h.x.grown hg h.x.size (fun j e => by cases e; exact h1), h.b2.grown hg (by simpa using h2), h.b4.grown hg (by simpa using h2'), h.web.kept hg (by simpa using h3), h.ov.kept hg (by simpa using h4)⟩
theorem mt_ne {w w' : World} {b : Nat} (h : w.mapTurned w' b) : ∀ g cs T fr, w.heap[g]? = some (.cells cs T fr) → g ≠ b := by
  rintro g cs T fr hc rfl
  obtain ⟨es, ck, es', ck', hb, _⟩ := h
  rw [hb] at hc
  cases hc
/-- 'm[d] = append(m[d], x)', told as a whole. -/
theorem WM.grow {w w1 w2 w4 : World} {bt base : Nat} {wl : List (I3 × SV)} {d x : I3} {old : List I3} {v v' : Value} {a' : Option Addr} {c' : Nat} (h : WM w bt base wl) (ht1 : w.mapTurned w1 bt) (hv : v = ((getV wl d).map encS).getD (.slice none 0 0)) (hold : old = ((getV wl d).map (·.ids)).getD [])
    (hv' : v' = encS ⟨a', c', old ++ [x]⟩) (ho : IK.Own w2 base v' (old ++ [x])) (hg : w1.grownBy w2 v.ownBlock) (hn : Next w1 v v') (hm4 : MV encS w4 bt (putV wl d ⟨a', c', old ++ [x]⟩)) (ht4 : w2.mapTurned w4 bt) (hx : okI x) :
    WM w4 bt base (putV wl d ⟨a', c', old ++ [x]⟩) ∧ ∀ b10, b10 < w.heap.size → (∀ e ∈ wl, (encS e.2).ownBlock ≠ some b10) → ∀ e ∈ putV wl d ⟨a', c', old ++ [x]⟩, (encS e.2).ownBlock ≠ some b10 := by
  have hs1 : w.heap.size ≤ w1.heap.size := ht1.grown.size
  have hmem : ∀ e ∈ putV wl d (⟨a', c', old ++ [x]⟩ : SV), (e ∈ wl ∧ e.1 ≠ d) ∨ e = (d, ⟨a', c', old ++ [x]⟩) := fun e he => by
    unfold putV at he
    rcases List.mem_append.1 he with q | q
    · exact .inl (mem_delV.1 q)
    · exact .inr (by simpa using q)
  have hvb : ∀ e ∈ wl, e.1 ≠ d → ∀ k, (encS e.2).ownBlock = some k → v.ownBlock ≠ some k := fun e he hne k hk => by
    cases q : getV wl d with
    | none => rw [hv, q]; intro r; cases r
    | some st =>
      rw [hv, q]
      exact h.apart e he (d, st) ((getV_some h.mv.nodup).1 q) hne k hk
  have h1own : ∀ e ∈ wl, IK.Own w1 base (encS e.2) e.2.ids := fun e he => (h.own e he).outA ht1.grown (mt_ne ht1)
  have h2own : ∀ e ∈ wl, e.1 ≠ d → IK.Own w2 base (encS e.2) e.2.ids := fun e he hne => (h1own e he).keepB fun k hk => hg.block k ((h1own e he).blk k hk).1 (fun r => hvb e he hne k hk r.symm)
  have hlt : ∀ e ∈ wl, ∀ k, (encS e.2).ownBlock = some k → k < w.heap.size := fun e he k hk => ((h.own e he).blk k hk).1
  have hnew : ∀ k, (encS ⟨a', c', old ++ [x]⟩).ownBlock = some k → v.ownBlock = some k ∨ w1.heap.size ≤ k := fun k hk => hn k (by rw [hv']; exact hk)
  refine ⟨⟨hm4, fun e he => ?_, fun e he => ?_, fun e he e' he' hne k hk => ?_⟩, fun b10 hb10 hsh e he => ?_⟩
  · rcases hmem e he with ⟨q1, q2⟩ | q
    · exact (h2own e q1 q2).outA ht4.grown (mt_ne ht4)
    · subst q
      rw [hv'] at ho
      exact ho.outA ht4.grown (mt_ne ht4)
  · rcases hmem e he with ⟨q1, q2⟩ | q
    · exact h.ok e q1
    · subst q
      intro y hy
      rcases List.mem_append.1 hy with r | r
      · cases q : getV wl d with
        | none => rw [hold, q] at r; cases r
        | some st =>
          rw [hold, q] at r
          exact h.ok (d, st) ((getV_some h.mv.nodup).1 q) y r
      · simp at r; subst r; exact hx
  · rcases hmem e he with ⟨q1, q2⟩ | q
    · rcases hmem e' he' with ⟨r1, r2⟩ | r
      · exact h.apart e q1 e' r1 hne k hk
      · subst r
        intro hk2
        rcases hnew k hk2 with r | r
        · exact hvb e q1 q2 k hk r
        · have := hlt e q1 k hk; omega
    · subst q
      rcases hmem e' he' with ⟨r1, r2⟩ | r
      · intro hk2
        rcases hnew k hk with r | r
        · exact hvb e' r1 r2 k hk2 r
        · have := hlt e' r1 k hk2; omega
      · subst r
        exact absurd rfl hne
  · rcases hmem e he with ⟨q1, q2⟩ | q
    · exact hsh e q1
    · subst q
      intro hk
      rcases hnew b10 hk with r | r
      · cases q : getV wl d with
        | none => rw [hv, q] at r; cases r
        | some st =>
          rw [hv, q] at r
          exact hsh (d, st) ((getV_some h.mv.nodup).1 q) r
      · omega
theorem wt_put {wl : List (I3 × SV)} (hnd : (keysV wl).Nodup) {d x : I3} {old : List I3} (hold : old = ((getV wl d).map (·.ids)).getD []) (a' : Option Addr) (c' : Nat) (d' y : I3) : WtBy (putV wl d ⟨a', c', old ++ [x]⟩) d' y ↔ (WtBy wl d' y ∨ (d' = d ∧ y = x)) := by
  unfold WtBy
  rw [getV_put hnd]
  by_cases e : d' = d
  · subst e
    rw [if_pos rfl]
    constructor
    · rintro ⟨st, h1, h2⟩
      cases h1
      rcases List.mem_append.1 h2 with q | q
      · cases r : getV wl d' with
        | none => rw [hold, r] at q; cases q
        | some st2 => rw [hold, r] at q; exact .inl ⟨st2, rfl, q⟩
      · exact .inr ⟨rfl, by simpa using q⟩
    · rintro (⟨st, h1, h2⟩ | ⟨_, h2⟩)
      · refine ⟨_, rfl, List.mem_append_left _ ?_⟩
        rw [hold, h1]; exact h2
      · exact ⟨_, rfl, by rw [h2]; simp⟩
  · rw [if_neg e]
    constructor
    · exact .inl
    · rintro (q | ⟨q, _⟩)
      · exact q
      · exact absurd q e
/-- What the loop over the nodes keeps. -/
structure Ry2 (w0 : World) (B0 bw bo n1 : Nat) (web : List (I3 × NV)) (ol : List (I3 × Unit)) (dn U : List I3) (ss : List I3) (ll : List (I3 × NV)) (wl : List (I3 × SV)) (S : I3 → I3 → Prop) (j : Nat) (w : World) : Prop where
  s : RyS w0 B0 bw bo web ol w
  b8 : Bk w (n1 + 1 + 1) 55 [.map (some n1)]
  lm : MV ndV w n1 ll
  wm : WM w (n1 + 1) (n1 + 1 + 1 + 1 + 1) wl
  lls : ∀ x n, getV ll x = some n ↔ (x ∈ ss ∧ x ∉ dn ∧ getV web x = some n)
  wls : ∀ d y, WtBy wl d y ↔ S d y
  sub : ∀ d ∈ keysV wl, d ∈ U
  few : ∀ e ∈ wl, e.2.ids.length ≤ j
  sz : n1 + 1 + 1 + 1 + 1 ≤ w.heap.size
theorem Ry2.below {w0 : World} {B0 bw bo n1 : Nat} {web : List (I3 × NV)} {ol : List (I3 × Unit)} {dn U : List I3} {ss : List I3} {ll : List (I3 × NV)} {wl : List (I3 × SV)} {S : I3 → I3 → Prop} {j : Nat} {w w' : World} (h : Ry2 w0 B0 bw bo n1 web ol dn U ss ll wl S j w) (hb : Below w.heap.size w w') : Ry2 w0 B0 bw bo n1 web ol dn U ss ll wl S j w' :=
  ⟨h.s.below hb, h.b8.below hb, h.lm.below hb, h.wm.below hb, h.lls, h.wls, h.sub, h.few, Nat.le_trans h.sz hb.size⟩
def WtS (web : List (I3 × NV)) (dn ss : List I3) (d y : I3) : Prop := y ∈ ss ∧ y ∉ dn ∧ d ∈ stepsV web y ∧ d ∉ dn
theorem zeroIds (w : World) : (zeroValue 23).run Try.prog w = .ok (.slice none 0 0) w := by kernel_rfl
theorem WM.start {w : World} {bt base : Nat} {wl : List (I3 × SV)} (h : WM w bt base wl) (d : I3) : IK.Own w base (((getV wl d).map encS).getD (.slice none 0 0)) (((getV wl d).map (·.ids)).getD []) := by
  cases q : getV wl d with
  | none => exact Knd.Own.nil _ _
  | some st => exact h.own (d, st) ((getV_some h.mv.nodup).1 q)
theorem Ry2.len {w0 : World} {B0 bw bo n1 : Nat} {web : List (I3 × NV)} {ol : List (I3 × Unit)} {dn U : List I3} {ss : List I3} {ll : List (I3 × NV)} {wl : List (I3 × SV)} {S : I3 → I3 → Prop} {j : Nat} {w : World} (h : Ry2 w0 B0 bw bo n1 web ol dn U ss ll wl S j w) (d : I3) : (((getV wl d).map (·.ids)).getD []).length ≤ j := by
  cases q : getV wl d with
  | none => exact Nat.zero_le _
  | some st => exact h.few (d, st) ((getV_some h.wm.mv.nodup).1 q)
theorem Ry2.put {w0 : World} {B0 bw bo n1 : Nat} {web : List (I3 × NV)} {ol : List (I3 × Unit)} {dn U : List I3} {ss : List I3} {ll : List (I3 × NV)} {wl : List (I3 × SV)} {S S' : I3 → I3 → Prop} {j : Nat} {w w1 w2 w4 : World} (h : Ry2 w0 B0 bw bo n1 web ol dn U ss ll wl S j w)
    (hz : w0.heap.size ≤ n1 ∧ B0 + 1 < n1 ∧ bw < n1 ∧ bo < n1) {d x : I3} {old : List I3} {v v' : Value} {a' : Option Addr} {c' : Nat} (hd : d ∈ U) (hx : okI x) (ht1 : w.mapTurned w1 (n1 + 1)) (hv : v = ((getV wl d).map encS).getD (.slice none 0 0)) (hold : old = ((getV wl d).map (·.ids)).getD [])
    (hv' : v' = encS ⟨a', c', old ++ [x]⟩) (ho : IK.Own w2 (n1 + 1 + 1 + 1 + 1) v' (old ++ [x])) (hb : Below (n1 + 1 + 1 + 1 + 1) w1 w2) (hg : w1.grownBy w2 v.ownBlock) (hn : Next w1 v v') (hm4 : MV encS w4 (n1 + 1) (putV wl d ⟨a', c', old ++ [x]⟩)) (ht4 : w2.mapTurned w4 (n1 + 1))
    (hS : ∀ d' y, S' d' y ↔ (S d' y ∨ (d' = d ∧ y = x))) : Ry2 w0 B0 bw bo n1 web ol dn U ss ll (putV wl d ⟨a', c', old ++ [x]⟩) S' (j + 1) w4 := by
  have hwm := (h.wm.grow ht1 hv hold hv' ho hg hn hm4 ht4 hx).1
  refine ⟨?_, ?_, ?_, hwm, h.lls, fun d' y => ?_, fun d' hd' => ?_, fun e he => ?_, ?_⟩
  · exact ((h.s.out ht1.grown (by omega) (by omega) (by omega) (by omega) (by omega)).row hb (by omega) (by omega) (by omega) (by omega)).out ht4.grown (by omega) (by omega) (by omega) (by omega) (by omega)
  · exact (((h.b8.grown ht1.grown (by simp)).on hb (by omega)).grown ht4.grown (by simp))
  · exact (((h.lm.kept ht1.grown (by simp)).on hb (by omega)).kept ht4.grown (by simp))
  · rw [wt_put h.wm.mv.nodup hold, hS, h.wls]
  · rcases mem_keys_put.1 hd' with q | q
    · exact h.sub d' q
    · subst q; exact hd
  · unfold putV at he
    rcases List.mem_append.1 he with q | q
    · exact Nat.le_succ_of_le (h.few e (mem_delV.1 q).1)
    · simp at q
      subst q
      have := h.len d
      rw [← hold] at this
      simp
      omega
  · have h1 := h.sz
    have h2 := ht1.grown.size
    have h3 := hg.size
    have h4 := ht4.grown.size
    omega
theorem Ry2.map {w0 : World} {B0 bw bo n1 : Nat} {web : List (I3 × NV)} {ol : List (I3 × Unit)} {dn U : List I3} {ss : List I3} {ll : List (I3 × NV)} {wl : List (I3 × SV)} {S : I3 → I3 → Prop} {j : Nat} {w w' : World} (h : Ry2 w0 B0 bw bo n1 web ol dn U ss ll wl S j w)
    (hz : w0.heap.size ≤ n1 ∧ B0 + 1 < n1 ∧ bw < n1 ∧ bo < n1) {x : I3} {nn : NV} (hm : MV ndV w' n1 (putV ll x nn)) (ht : w.mapTurned w' n1) (hn : getV web x = some nn) (hd : x ∉ dn) {S' : I3 → I3 → Prop} (hS : ∀ d' y, S' d' y ↔ S d' y) : Ry2 w0 B0 bw bo n1 web ol dn U (ss ++ [x]) (putV ll x nn) wl S' j w' := by
  refine ⟨h.s.out ht.grown (by omega) (by omega) (by omega) (by omega) (by omega), h.b8.grown ht.grown (by simp; omega), hm, h.wm.out ht.grown (mt_ne ht) (by omega), fun y n => ?_, fun d' y => ?_, h.sub, h.few, ?_⟩
  · rw [getV_put h.lm.nodup, List.mem_append, List.mem_singleton]
    by_cases e : y = x
    · subst e
      rw [if_pos rfl, hn]
      exact ⟨fun q => ⟨.inr rfl, hd, q⟩, fun q => q.2.2⟩
    · rw [if_neg e, h.lls]
      exact ⟨fun q => ⟨.inl q.1, q.2⟩, fun q => ⟨q.1.resolve_right e, q.2⟩⟩
  · rw [h.wls, hS]
  · have h1 := h.sz
    have h2 := ht.grown.size
    omega
theorem Ry2.turn {w0 : World} {B0 bw bo n1 : Nat} {web : List (I3 × NV)} {ol : List (I3 × Unit)} {dn U : List I3} {ss : List I3} {ll : List (I3 × NV)} {wl : List (I3 × SV)} {S S' : I3 → I3 → Prop} {j j' : Nat} {w : World} (h : Ry2 w0 B0 bw bo n1 web ol dn U ss ll wl S j w) (hS : ∀ d y, S' d y ↔ S d y) (hj : j ≤ j') : Ry2 w0 B0 bw bo n1 web ol dn U ss ll wl S' j' w :=
  ⟨h.s, h.b8, h.lm, h.wm, h.lls, fun d y => (h.wls d y).trans (hS d y).symm, h.sub, fun e he => Nat.le_trans (h.few e he) hj, h.sz⟩
set_option maxHeartbeats 16000000 in
theorem ready_any {w : World} {bw : Nat} {web : List (I3 × NV)} {v : Value} {dn : List I3} (hM : MV ndV w bw web) (hE : ∀ e ∈ web, e.2.Ok w) (hv : IK.Rd w v dn) (ho : okL dn) (hd : dn.length ≤ 900) (hl : web.length ≤ 1024) (U : List I3) (hU : ∀ e ∈ web, (∀ y ∈ e.2.d.dl, y ∈ U) ∧ e.2.d.dl.length ≤ 900) (hUl : U.length ≤ 900) :
    Calls Try.prog 29 #[.agg #[.map (some bw)], v] w (ReadyP web dn w) := by
  have hmm := @run_makeMap Try.prog
  obtain ⟨da, dc, hvv⟩ := hv.slice
  subst hvv
  obtain ⟨Nd, hNd⟩ : ∃ n, dn.length = n := ⟨_, rfl⟩
  rw [hNd] at hv hd ⊢
  obtain ⟨B0, hB0⟩ : ∃ n, w.heap.size = n := ⟨_, rfl⟩
  obtain ⟨X, hX⟩ : ∃ X, ((w.alloc (.cells #[.map (some bw)] 55)).alloc (.cells #[.map none] 55)).alloc (.map #[] 0) = X := ⟨_, rfl⟩
  have hbX : Below w.heap.size w X := by rw [← hX]; exact (((Below.refl _ _).alloc (Nat.le_refl _) _).alloc (by simp) _).alloc (by simp <;> omega) _
  have HS0 : Hid (RyS w B0 bw (B0 + 1 + 1) web [] X) := Lib.hid ⟨hbX, by rw [← hX]; exact ((Bk.newAg hB0 _ [.map (some bw)]).old _).old _, by rw [← hX]; exact (Bk.newAg (by simp [hB0]) _ [.map none]).old _, hM.below hbX, by
    have q := MV.made encU ((w.alloc (.cells #[.map (some bw)] 55)).alloc (.cells #[.map none] 55))
    rw [World.size_alloc, World.size_alloc, hB0] at q
    rw [← hX]
    exact q⟩
  have HBw : Hid (bw < B0) := Lib.hid (hB0 ▸ hM.lt)
  have HB0 := Lib.hid hB0
  have HE := Lib.hid hE
  have HRd := Lib.hid hv
  have HDo := Lib.hid ho
  have HNd := Lib.hid hNd
  have HU := Lib.hid hU
  have HUl := Lib.hid hUl
  have HWl := Lib.hid hl
  have hd63 : Nd ≤ 9223372036854775807 := by omega
  have HNd9 : Hid (Nd ≤ 900) := Lib.hid hd
  clear hM hE hv ho hU hUl hl hbX hNd
  go_enter Try.func29, Try.ntmps29
  go_wp2_with fail
  try rw [hX]
  clear hX
  go_loopw [21] (fun i wr => ∃ (k : Nat) (ol : List (I3 × Unit)), k ≤ Nd ∧ i = .int .i64 k ∧ Hid (RyS w B0 bw (B0 + 1 + 1) web ol wr) ∧ Hid (∀ x, x ∈ keysV ol ↔ x ∈ dn.take k) ∧ Hid (ol.length ≤ k)) (fun i _ => Nd - (intOf i).toNat)
  case atStart => exact ⟨0, [], Nat.zero_le _, rfl, HS0, Lib.hid (by simp), Lib.hid (Nat.le_refl _)⟩
  case round =>
    clear HS0
    obtain ⟨k, ol, hk, rfl, HS, HK, HL⟩ := hrel
    by_cases hkD : k < Nd
    · have hk1 : (k : Int) < (Nd : Int) := by omega
      have hk2 : decide ((k : Int) < (Nd : Int)) = true := decide_eq_true hk1
      have hk3 : decide (k < Nd) = true := decide_eq_true hkD
      have hkl : k < dn.length := by rw [HNd.out]; exact hkD
      obtain ⟨-, gd, od, hda, hgd, hcd⟩ := HRd.out.at (by intro e; rw [e] at hkl; simp at hkl)
      subst hda
      have eK : IK.k = 3 := rfl
      have hc := hcd k hkD
      have eg : dn.getD k IK.d = dn[k] := by simp [List.getD, hkl]
      rw [eg, eK] at hc
      have hoe := HDo.out _ (List.getElem_mem hkl)
      have htk : dn.take (k + 1) = dn.take k ++ [dn[k]] := List.take_succ_eq_append_getElem hkl
      obtain ⟨ee, hee⟩ : ∃ x, dn[k] = x := ⟨_, rfl⟩
      rw [hee] at hc hoe htk
      obtain ⟨e1, e2, e3⟩ := ee
      have d0 : wr.cell? ⟨gd, od + k * 3, none⟩ = some (.int .i64 e1) := (HS.out.x.cell (p := ⟨gd, od + k * 3, none⟩) hgd).trans (hc 0 _ rfl)
      have d1 : wr.cell? ⟨gd, od + k * 3 + 1, none⟩ = some (.int .i64 e2) := (HS.out.x.cell (p := ⟨gd, od + k * 3 + 1, none⟩) hgd).trans (hc 1 _ rfl)
      have d2 : wr.cell? ⟨gd, od + k * 3 + 2, none⟩ = some (.int .i64 e3) := (HS.out.x.cell (p := ⟨gd, od + k * 3 + 2, none⟩) hgd).trans (hc 2 _ rfl)
      have HOe := Lib.hid hoe
      have HTk := Lib.hid htk
      obtain ⟨bd, hbd⟩ : ∃ q, wr.heap.size = q := ⟨_, rfl⟩
      obtain ⟨wf, hwf⟩ : ∃ q, wr.alloc (.cells #[.int .i64 e1, .int .i64 e2, .int .i64 e3] 25) = q := ⟨_, rfl⟩
      have hb : Below wr.heap.size wr wf := by rw [← hwf]; exact (Below.refl _ _).alloc (Nat.le_refl _) _
      have HBd : Hid (Bk wf bd 25 [.int .i64 e1, .int .i64 e2, .int .i64 e3]) := Lib.hid (by rw [← hwf]; exact Bk.newAg hbd _ [.int .i64 e1, .int .i64 e2, .int .i64 e3])
      have HS' := Lib.hid (HS.out.below hb)
      have HLm : Hid (ol.length < maxLen) := Lib.hid (by have := HL.out; have := HNd9.out; unfold maxLen; omega)
      clear hcd hc eg eK hoe htk hee hkl hb HS hgd
      go_upto_region 5 with fail
      try rw [hwf]
      try rw [hbd]
      clear hwf hbd d0 d1 d2
      have k0 := Bk.cell HBd.out 0
      have k1 := Bk.cell HBd.out 1
      have k2 := Bk.cell HBd.out 2
      simp only [List.getElem?_cons_zero, List.getElem?_cons_succ] at k0 k1 k2
      go_wp2_with (first
        | (refine wpList_put_mv rfl _ _ _ 70 rfl 71 Try.underlying70 encU (B0 + 1 + 1) ol rfl HS'.out.ov HLm.out (e1, e2, e3) () rfl HOe.out rfl ?_; intro w5 hm5 ht5; have HM5 := Lib.hid hm5; have HG5 := Lib.hid ht5.grown; clear hm5 ht5)
        | fail)
      have HS5 : Hid (RyS w B0 bw (B0 + 1 + 1) web (putV ol (e1, e2, e3) ()) w5) := Lib.hid ⟨HS'.out.x.grown HG5.out HS'.out.x.size (fun j e => by cases e; have := HB0.out; omega), HS'.out.b2.grown HG5.out (by simp; omega), HS'.out.b4.grown HG5.out (by simp), HS'.out.web.kept HG5.out (by have := HBw.out; simp; omega), HM5.out⟩
      have HK5 : Hid (∀ x, x ∈ keysV (putV ol (e1, e2, e3) ()) ↔ x ∈ dn.take (k + 1)) := Lib.hid fun x => by
        rw [HTk.out, List.mem_append, ← HK.out x, mem_keys_put, List.mem_singleton]
      have HL5 : Hid ((putV ol (e1, e2, e3) ()).length ≤ k + 1) := Lib.hid (by have h := len_putV HS'.out.ov.nodup (e1, e2, e3) (); have h2 := HL.out; rw [h]; split <;> omega)
      clear HM5 HG5 HS' HK HL HLm HBd k0 k1 k2 HTk
      go_wp2_with fail
      go_roundw
      case rel => exact ⟨k + 1, _, by omega, by go_num, HS5, HK5, HL5⟩
      case measure => simp [intOf]; omega
    · have hkN : Nd = k := by omega
      subst hkN
      have hk2 : decide ((Nd : Int) < (Nd : Int)) = false := decide_eq_false (by omega)
      have hk3 : decide (Nd < Nd) = false := decide_eq_false (by omega)
      have HKe : Hid (∀ x, (getV ol x).isSome = hasI dn x) := Lib.hid fun x => by
        rw [getV_isSome, Bool.eq_iff_iff, hasI_iff, hasI_iff, HK.out x, List.take_of_length_le (by rw [HNd.out]; exact Nat.le_refl _)]
      clear HK HL
      obtain ⟨n1, hn1⟩ : ∃ n, wr.heap.size = n := ⟨_, rfl⟩
      obtain ⟨Y, hY⟩ : ∃ Y, ((wr.alloc (.map #[] 0)).alloc (.map #[] 0)).alloc (.cells #[.map (some n1)] 55) = Y := ⟨_, rfl⟩
      have hbY : Below wr.heap.size wr Y := by rw [← hY]; exact (((Below.refl _ _).alloc (Nat.le_refl _) _).alloc (by simp) _).alloc (by simp <;> omega) _
      have hsY : Y.heap.size = n1 + 1 + 1 + 1 := by rw [← hY, ← hn1]; simp
      have HSY := Lib.hid (HS.out.below hbY)
      have HZ : Hid (w.heap.size ≤ B0 ∧ B0 + 1 + 1 < n1 ∧ bw < n1) := Lib.hid ⟨by have := HB0.out; omega, by rw [← hn1]; exact HS.out.ov.lt, by rw [← hn1]; exact HS.out.web.lt⟩
      have HL0 : Hid (MV ndV Y n1 []) := Lib.hid (by
        have q := MV.made ndV wr
        rw [hn1] at q
        rw [← hY]
        exact q.below (((Below.refl _ _).alloc (Nat.le_refl _) _).alloc (by simp) _))
      have HT0 : Hid (MV encS Y (n1 + 1) []) := Lib.hid (by
        have q := MV.made encS (wr.alloc (.map #[] 0))
        rw [World.size_alloc, hn1] at q
        rw [← hY]
        exact q.below ((Below.refl _ _).alloc (Nat.le_refl _) _))
      have HB8 : Hid (Bk Y (n1 + 1 + 1) 55 [.map (some n1)]) := Lib.hid (by rw [← hY]; exact Bk.newAg (by simp [hn1]) _ [.map (some n1)])
      obtain ⟨D, hD, _, hDs, hhas, hval⟩ := HSY.out.web.own
      have HMet := Lib.hid (HSY.out.web.met hhas)
      obtain ⟨m, hm⟩ : ∃ m, web.length = m := ⟨_, rfl⟩
      rw [hm] at hD hDs
      have HD := Lib.hid hD
      have HDs := Lib.hid hDs
      have HVl := Lib.hid hval
      have HMm : Hid (m ≤ 1024) := Lib.hid (by rw [← hm]; exact HWl.out)
      have HNw := Lib.hid HSY.out.web.nodup
      have c2 := Bk.cell HSY.out.b2 0
      simp only [List.getElem?_cons_zero] at c2
      clear HS hbY hD hDs hhas hval hm
      go_wp2_with (first
        | (at_range; refine wpList_range_own _ rfl _ 53 rfl 25 46 idLaw Try.underlying53 vR bw m D rfl (by first | exact HD.out | (rw [hY]; exact HD.out)) ?_)
        | fail)
      intro w2 hr2 hg2 hz2
      try rw [hY] at hr2 hg2 hz2
      try rw [hsY] at hr2
      try rw [hsY] at hz2
      rw [HDs.out] at hr2
      have hb2 : Below Y.heap.size Y w2 := ⟨hg2.os, hg2.tape, hg2.output, hg2.size, fun k hk => hg2.block k hk (by simp)⟩
      have HR2 := Lib.hid hr2
      have H2 : Hid (Ry2 w B0 bw (B0 + 1 + 1) n1 web ol dn U [] [] [] (WtS web dn []) 0 w2) := Lib.hid ⟨HSY.out.below hb2, HB8.out.below hb2, HL0.out.below hb2, ⟨HT0.out.below hb2, (fun e he => by cases he), (fun e he => by cases he), (fun e he => by cases he)⟩, (fun x n => ⟨(fun q => by cases q), (fun q => by cases q.1)⟩), (fun d y => ⟨(fun ⟨_, q, _⟩ => by cases q), (fun q => by cases q.1)⟩), (fun d hd => by cases hd), (fun e he => by cases he), by omega⟩
      try rw [hsY]
      clear hr2 hg2 hz2 hb2 HSY HB8 HL0 HT0 c2 HD hsY hY
      go_wp2_with fail
      go_loopw [10] (fun _ wr => ∃ (left : Lit → Bool) (cnt : Nat) (ss : List I3) (ll : List (I3 × NV)) (wl : List (I3 × SV)), Hid (wr.ranges (H := Value) Try.prog 25 vR bw (n1 + 1 + 1 + 1) m D left cnt) ∧ Hid (Ry2 w B0 bw (B0 + 1 + 1) n1 web ol dn U ss ll wl (WtS web dn ss) (ss.length * 900) wr) ∧ Hid (Met (keysV web) left ss) ∧ Hid (ss.length + cnt ≤ m)) (fun _ wr => wr.rangeLeft bw (n1 + 1 + 1 + 1))
      case atStart => exact ⟨_, m, [], [], [], HR2, H2, HMet, Lib.hid (by simp)⟩
      case round =>
        clear HR2 H2 HMet
        obtain ⟨left, cnt, ss, ll, wl, HR, H2, HMt, HC⟩ := hrel
        go_wp2_with (first
          | (at_next; refine wpList_next_ranges _ rfl _ rfl 25 idLaw vR idV (fun v : Value => v) (fun key kl hk => by obtain ⟨x, hx, _⟩ := idKey_inv key kl hk; exact ⟨x, hx⟩) (fun v y hv => ⟨v, rfl⟩) bw (n1 + 1 + 1 + 1) m _ _ _ rfl HR.out ?_ ?_)
          | fail)
        · intro hc0 hl0
          have hss := HMt.out.done hl0 (fun x hx => by obtain ⟨e, he, rfl⟩ := List.mem_map.1 hx; exact H2.out.s.web.keys e he)
          have HLa : Hid (∀ x n, getV ll x = some n ↔ x ∉ dn ∧ getV web x = some n) := Lib.hid fun x n => by
            rw [H2.out.lls]
            exact ⟨fun q => q.2, fun q => ⟨(hss x).2 (mem_keys.2 ⟨n, q.2⟩), q⟩⟩
          have HWa : Hid (∀ d y, WtBy wl d y ↔ (y ∈ keysV web ∧ y ∉ dn ∧ d ∈ stepsV web y ∧ d ∉ dn)) := Lib.hid fun d y => by
            rw [H2.out.wls]
            unfold WtS
            rw [hss y]
          have hllen : ll.length ≤ 2000 := by
            have h1 : ll.length ≤ ss.length := by
              have := len_sub H2.out.lm.nodup (k := ss) fun x hx => by
                obtain ⟨n, hn⟩ := mem_keys.1 hx
                exact ((H2.out.lls x n).1 hn).1
              simpa using this
            have h2 := HC.out
            have h3 := HMm.out
            omega
          have hwlen : wl.length ≤ 2000 := by
            have := len_sub H2.out.wm.mv.nodup H2.out.sub
            have h3 := HUl.out
            simp at this
            omega
          have HDr := Lib.hid (drop_any H2.out.lm H2.out.wm.mv (by omega) (fun e he => ⟨(H2.out.wm.own e he).rd, H2.out.wm.ok e he⟩) hllen hwlen)
          have c8 := Bk.cell H2.out.b8 0
          simp only [List.getElem?_cons_zero] at c8
          clear hc0 hl0 hss hllen hwlen HMt HR HC
          go_wp2_with fail
          refine HDr.out.mono ?_
          rintro e w5 ⟨he, cur, hdi, hmc, hg5⟩
          rw [he.out]
          have HRy := Lib.hid (rdy_of hdi HLa.out HWa.out)
          have HMc := Lib.hid hmc
          have HB8 := Lib.hid (H2.out.b8.grown hg5 (by simp; omega))
          have HB4 := Lib.hid (H2.out.s.b4.grown hg5 (by have := HZ.out; simp; omega))
          have HX5 : Hid (Below w.heap.size w w5) := Lib.hid (H2.out.s.x.grown hg5 H2.out.s.x.size (fun j e => by cases e; have := HZ.out; omega))
          clear he hdi hmc hg5 HDr c8 H2 HLa HWa
          have c8 := Bk.cell HB8.out 0
          have c4 := Bk.cell HB4.out 0
          have f4 := HB4.out.fz 0
          simp only [List.getElem?_cons_zero] at c8 c4
          obtain ⟨V, hV⟩ : ∃ V, w5.setCell ⟨B0 + 1, 0, none⟩ (.map (some n1)) = V := ⟨_, rfl⟩
          have HBV : Hid (Bk V (B0 + 1) 55 [.map (some n1)]) := Lib.hid (by rw [← hV]; exact HB4.out.set 0 _)
          have HMV : Hid (MV ndV V n1 cur) := Lib.hid (by rw [← hV]; exact HMc.out.setCell (by have := HZ.out; show n1 ≠ B0 + 1; omega) _)
          have HXV : Hid (Below w.heap.size w V) := Lib.hid (by rw [← hV]; exact HX5.out.setCell (by have := HB0.out; show w.heap.size ≤ B0 + 1; omega) _)
          have hlv := run_loadVar_row (P := Try.prog) V (B0 + 1) 55 55 #[.map (some n1)] (0, 0) _ HBV.out Try.underlying55 rfl (by kernel_rfl)
          clear HMc HX5 HB4 HB8
          go_wp2
          try rw [hV]
          clear c8 c4 f4 hV
          exact bodyPost_ret (v := .agg #[.map (some n1)]) (by simp [results, Try.results29, asAddr, Act.put, hlv]) rfl ⟨_, cur, Lib.hid rfl, HMV.out, HRy.out, by have := HZ.out; omega, HXV.out⟩
        · intro x1 x2 x3 c kl yd yp w3 cnt3 hkey hlk hv hat hrg3 hlt hg3 hs3 hen
          have hxo : okI (x1, x2, x3) := by
            obtain ⟨x', ex, hxo⟩ := idKey_inv _ _ hkey
            simp only [Value.agg.injEq, Array.mk.injEq, List.cons.injEq, Value.int.injEq, true_and, and_true] at ex
            have e : ((x1, x2, x3) : I3) = x' := i3_ext ex.1 ex.2.1 ex.2.2
            rw [e]
            exact hxo
          obtain rfl : kl = kf (x1, x2, x3) := Option.some.inj (hkey.symm.trans (kf_key hxo))
          have hxk : (x1, x2, x3) ∈ keysV web := by
            have h1 := HMt.out.left (x1, x2, x3) hxo
            rw [hlk] at h1
            have h2 : hasI (keysV web) (x1, x2, x3) = true ∧ hasI ss (x1, x2, x3) = false := by simpa using h1.symm
            exact (hasI_iff _ _).1 h2.1
          have hxs : (x1, x2, x3) ∉ ss := by
            have h1 := HMt.out.left (x1, x2, x3) hxo
            rw [hlk] at h1
            have h2 : hasI (keysV web) (x1, x2, x3) = true ∧ hasI ss (x1, x2, x3) = false := by simpa using h1.symm
            exact (hasI_false _ _).1 h2.2
          obtain ⟨nn, hnn⟩ := mem_keys.1 hxk
          have hcv : c = ndV nn := by
            have h1 := HVl.out (x1, x2, x3) nn hxo hnn (.held c)
            rw [hat (.held c)] at h1
            have h2 : (DataW.held c : DataW Value) = yd := (Prod.mk.inj (Option.some.inj hv)).1
            rw [← h2] at h1
            injection h1
          subst hcv
          have hmw := (getV_some HNw.out).1 hnn
          have hok := HE.out _ hmw
          have hus := HU.out _ hmw
          have hst : stepsV web (x1, x2, x3) = nn.d.dl := by unfold stepsV ndOf; rw [hnn]; rfl
          have HMt3 := Lib.hid (HMt.out.step hxo hlk)
          have HXo := Lib.hid hxo
          have HXs := Lib.hid hxs
          have HLT : Hid (cnt3 < cnt) := Lib.hid hlt
          have HLE := Lib.hid HR.out.left_eq
          have HR3 := Lib.hid hrg3
          have H3 : Hid (Ry2 w B0 bw (B0 + 1 + 1) n1 web ol dn U ss ll wl (WtS web dn ss) (ss.length * 900) w3) := Lib.hid ⟨H2.out.s.out hg3 (by have := HZ.out; omega) (by have := HZ.out; omega) (by have := HZ.out; omega) (by have := HZ.out; omega) (by have := HZ.out; omega), H2.out.b8.grown hg3 (by simp), H2.out.lm.kept hg3 (by simp; omega), ⟨H2.out.wm.mv.kept hg3 (by simp), fun e he => (H2.out.wm.own e he).keepB fun k hk => hg3.block k ((H2.out.wm.own e he).blk k hk).1 (fun r => row_ne_base (H2.out.wm.own e he) (Nat.lt_succ_self _) (by rw [hk, r])), H2.out.wm.ok, H2.out.wm.apart⟩, H2.out.lls, H2.out.wls, H2.out.sub, H2.out.few, by have := H2.out.sz; omega⟩
          have HNN : Hid (getV web (x1, x2, x3) = some nn) := Lib.hid hnn
          obtain ⟨⟨⟨j1, j2, j3⟩, sq, dl⟩, na, nc⟩ := nn
          simp only at hok hus hst
          obtain ⟨Dn, hDn⟩ : ∃ n, dl.length = n := ⟨_, rfl⟩
          have HEn : Hid (ndV ⟨⟨(j1, j2, j3), sq, dl⟩, na, nc⟩ = .agg #[.int .i64 j1, .int .i64 j2, .int .i64 j3, .int .i64 sq, .slice na Dn nc]) := Lib.hid (by simp only [ndV, hDn])
          have HDn := Lib.hid hDn
          have HSt := Lib.hid hst
          have HRs : Hid (IK.Rd w (.slice na Dn nc) dl) := Lib.hid (by have q := hok.2.2; simp only at q; rwa [hDn] at q)
          have HDl : Hid (okL dl) := Lib.hid hok.2.1
          have HUs : Hid ((∀ y ∈ dl, y ∈ U) ∧ dl.length ≤ 900) := Lib.hid hus
          simp only [ndV, hDn] at hen ⊢
          have HC3 : Hid ((ss ++ [(x1, x2, x3)]).length + cnt3 ≤ m) := Lib.hid (by have := HC.out; have := HLT.out; simp; omega)
          have hDn63 : Dn ≤ 9223372036854775807 := by have := hus.2; omega
          clear hkey hlk hv hat hrg3 hlt hg3 hs3 HR H2 HMt hxo hxk hxs hnn hmw hok hus hst hDn HC
          obtain ⟨b10, hb10⟩ : ∃ q, w3.heap.size = q := ⟨_, rfl⟩
          obtain ⟨w5, hw5⟩ : ∃ q, (w3.alloc (.cells #[.int .i64 x1, .int .i64 x2, .int .i64 x3] 25)).alloc (.cells #[.int .i64 j1, .int .i64 j2, .int .i64 j3, .int .i64 sq, .slice na Dn nc] 46) = q := ⟨_, rfl⟩
          have hb5 : Below w3.heap.size w3 w5 := by rw [← hw5]; exact ((Below.refl _ _).alloc (Nat.le_refl _) _).alloc (by simp) _
          have HX5 : Hid (Bk w5 b10 25 [.int .i64 x1, .int .i64 x2, .int .i64 x3]) := Lib.hid (by rw [← hw5]; exact (Bk.newAg hb10 _ [.int .i64 x1, .int .i64 x2, .int .i64 x3]).old _)
          have HN5 : Hid (Bk w5 (b10 + 1) 46 [.int .i64 j1, .int .i64 j2, .int .i64 j3, .int .i64 sq, .slice na Dn nc]) := Lib.hid (by rw [← hw5]; exact Bk.newAg (by simp [hb10]) _ [.int .i64 j1, .int .i64 j2, .int .i64 j3, .int .i64 sq, .slice na Dn nc])
          have HR5 := Lib.hid (show w5.ranges (H := Value) Try.prog 25 vR bw (n1 + 1 + 1 + 1) m D _ cnt3 by rw [← hw5]; exact (HR3.out.alloc _).alloc _)
          have H5 := Lib.hid (H3.out.below hb5)
          have HSh : Hid (∀ e ∈ wl, (encS e.2).ownBlock ≠ some b10) := Lib.hid fun e he r => by
            have := ((H3.out.wm.own e he).blk b10 r).1
            omega
          have HZb : Hid (n1 + 1 + 1 + 1 + 1 ≤ b10) := Lib.hid (by rw [← hb10]; exact H3.out.sz)
          obtain ⟨q, hq⟩ : ∃ q, hasI dn (x1, x2, x3) = q := ⟨_, rfl⟩
          have HQ : Hid ((getV ol (x1, x2, x3)).isSome = q) := Lib.hid (by rw [HKe.out, hq])
          have HQd := Lib.hid hq
          have HZu : Hid (((getV ol (x1, x2, x3)).map encU).getD (.agg #[]) = .agg #[]) := Lib.hid (by cases getV ol (x1, x2, x3) <;> rfl)
          clear hb5 HR3 H3 hq
          go_upto_region 11 with fail
          try rw [hw5]
          try rw [hb10]
          clear hw5 hb10 hen
          obtain ⟨w6, hw6⟩ : ∃ q, w5.alloc (.cells #[] 71) = q := ⟨_, rfl⟩
          have hb6 : Below w5.heap.size w5 w6 := by rw [← hw6]; exact (Below.refl _ _).alloc (Nat.le_refl _) _
          have HX6 := Lib.hid (Bk.below HX5.out hb6)
          have HN6 := Lib.hid (Bk.below HN5.out hb6)
          have HR6 := Lib.hid (show w6.ranges (H := Value) Try.prog 25 vR bw (n1 + 1 + 1 + 1) m D _ cnt3 by rw [← hw6]; exact HR5.out.alloc _)
          have H6 := Lib.hid (H5.out.below hb6)
          have k0 := Bk.cell HX5.out 0
          have k1 := Bk.cell HX5.out 1
          have k2 := Bk.cell HX5.out 2
          simp only [List.getElem?_cons_zero, List.getElem?_cons_succ] at k0 k1 k2
          clear hb6 HX5 HN5 HR5
          cases q with
          | true =>
            have hxd : (x1, x2, x3) ∈ dn := (hasI_iff _ _).1 HQd.out
            have H7 : Hid (Ry2 w B0 bw (B0 + 1 + 1) n1 web ol dn U (ss ++ [(x1, x2, x3)]) ll wl (WtS web dn (ss ++ [(x1, x2, x3)])) ((ss ++ [(x1, x2, x3)]).length * 900) w6) := Lib.hid ⟨H6.out.s, H6.out.b8, H6.out.lm, H6.out.wm, fun y n => by
              rw [H6.out.lls, List.mem_append, List.mem_singleton]
              exact ⟨fun r => ⟨.inl r.1, r.2⟩, fun r => ⟨r.1.resolve_right (fun e => r.2.1 (e ▸ hxd)), r.2⟩⟩, fun d y => by
              rw [H6.out.wls]
              unfold WtS
              rw [List.mem_append, List.mem_singleton]
              exact ⟨fun r => ⟨.inl r.1, r.2⟩, fun r => ⟨r.1.resolve_right (fun e => r.2.1 (e ▸ hxd)), r.2⟩⟩, H6.out.sub, fun e he => Nat.le_trans (H6.out.few e he) (Nat.mul_le_mul_right _ (by simp)), H6.out.sz⟩
            go_wp2_with (first
              | refine wpList_look2_mv rfl _ _ 70 rfl 71 Try.underlying70 encU (B0 + 1 + 1) ol rfl H5.out.s.ov (x1, x2, x3) rfl HXo.out (.agg #[]) (zeroUn _) (.agg #[]) HZu.out true HQ.out ?_
              | fail)
            try rw [hw6]
            clear hw6 k0 k1 k2 H5 H6 HX6 HN6 HZu HQ HQd hxd
            go_roundw
            case rel => exact ⟨_, cnt3, _, ll, wl, HR6, H7, HMt3, HC3⟩
            case measure => rw [HR6.out.left_eq, HLE.out]; exact HLT.out
          | false =>
            have hxd : (x1, x2, x3) ∉ dn := (hasI_false _ _).1 HQd.out
            go_upto_region 13 with (first
              | refine wpList_look2_mv rfl _ _ 70 rfl 71 Try.underlying70 encU (B0 + 1 + 1) ol rfl H5.out.s.ov (x1, x2, x3) rfl HXo.out (.agg #[]) (zeroUn _) (.agg #[]) HZu.out false HQ.out ?_
              | fail)
            try rw [hw6]
            clear hw6 k0 k1 k2 H5 HZu HQ HQd
            have c8 := Bk.cell H6.out.b8 0
            have k0 := Bk.cell HX6.out 0
            have k1 := Bk.cell HX6.out 1
            have k2 := Bk.cell HX6.out 2
            simp only [List.getElem?_cons_zero, List.getElem?_cons_succ] at c8 k0 k1 k2
            have HLl : Hid (ll.length < maxLen) := Lib.hid (by
              have h1 : ll.length ≤ ss.length := by
                have := len_sub H6.out.lm.nodup (k := ss) fun y hy => by
                  obtain ⟨n, hn⟩ := mem_keys.1 hy
                  exact ((H6.out.lls y n).1 hn).1
                simpa using this
              have h2 := HC3.out
              have h3 := HMm.out
              simp at h2
              unfold maxLen
              omega)
            go_upto_region 14 with (first
              | refine wpList_load_rowGg rfl _ _ rfl (b10 + 1) rfl 46 _ (0, 0) _ HN6.out Try.underlying46 rfl (by kernel_rfl) ?_
              | (refine wpList_put_mv rfl _ _ _ 53 rfl 46 Try.underlying53 ndV n1 ll rfl H6.out.lm HLl.out (x1, x2, x3) ⟨⟨(j1, j2, j3), sq, dl⟩, na, nc⟩ rfl HXo.out HEn.out.symm ?_; intro w7 hm7 ht7; have HM7 := Lib.hid hm7; have HG7 := Lib.hid ht7)
              | fail)
            have hne7 := H6.out.lm.blkNe
            have HX7 := Lib.hid (HX6.out.grown HG7.out.grown (by have := hne7 _ _ _ _ HX6.out; simpa using this))
            have HN7 := Lib.hid (HN6.out.grown HG7.out.grown (by have := hne7 _ _ _ _ HN6.out; simpa using this))
            have HR7 := Lib.hid (HR6.out.kept HG7.out.grown (by have := HZ.out; simp; omega) (by simp; omega))
            obtain ⟨lf, hlf⟩ : ∃ f, (fun z => left z && !z.sameKey (kf (x1, x2, x3))) = f := ⟨_, rfl⟩
            rw [hlf] at HR7 HMt3
            have HZ4 : Hid (w.heap.size ≤ n1 ∧ B0 + 1 < n1 ∧ bw < n1 ∧ B0 + 1 + 1 < n1) := Lib.hid (by have := HZ.out; omega)
            have H7 : Hid (Ry2 w B0 bw (B0 + 1 + 1) n1 web ol dn U (ss ++ [(x1, x2, x3)]) (putV ll (x1, x2, x3) ⟨⟨(j1, j2, j3), sq, dl⟩, na, nc⟩) wl (fun d y => WtS web dn ss d y ∨ (y = (x1, x2, x3) ∧ d ∈ dl.take 0 ∧ d ∉ dn)) (ss.length * 900 + 0) w7) := Lib.hid (H6.out.map HZ4.out HM7.out HG7.out HNN.out hxd (fun d y => by simp))
            clear hm7 ht7 hne7 HX6 HN6 HR6 H6 HM7 HG7 c8 k0 k1 k2 HLl hlf
            have k4 := Bk.cell HN7.out 4
            simp only [List.getElem?_cons_zero, List.getElem?_cons_succ] at k4
            go_wp2_with fail
            clear k4 HN7
            go_loopw [55] (fun i wr => ∃ (j : Nat) (wl : List (I3 × SV)), i = .int .i64 j ∧ j ≤ Dn ∧ Hid (Bk wr b10 25 [.int .i64 x1, .int .i64 x2, .int .i64 x3]) ∧ Hid (wr.ranges (H := Value) Try.prog 25 vR bw (n1 + 1 + 1 + 1) m D lf cnt3) ∧ Hid (Ry2 w B0 bw (B0 + 1 + 1) n1 web ol dn U (ss ++ [(x1, x2, x3)]) (putV ll (x1, x2, x3) ⟨⟨(j1, j2, j3), sq, dl⟩, na, nc⟩) wl (fun d y => WtS web dn ss d y ∨ (y = (x1, x2, x3) ∧ d ∈ dl.take j ∧ d ∉ dn)) (ss.length * 900 + j) wr) ∧ Hid (∀ e ∈ wl, (encS e.2).ownBlock ≠ some b10)) (fun i _ => Dn - (intOf i).toNat)
            case atStart => exact ⟨0, wl, rfl, Nat.zero_le _, HX7, HR7, H7, HSh⟩
            case round =>
              clear HX7 HR7 H7 HSh
              obtain ⟨j, wl, rfl, hj, HX, HR, H2, HSh⟩ := hrel
              by_cases hjD : j < Dn
              · have hk1 : (j : Int) < (Dn : Int) := by omega
                have hk2 : decide ((j : Int) < (Dn : Int)) = true := decide_eq_true hk1
                have hk3 : decide (j < Dn) = true := decide_eq_true hjD
                have hkl : j < dl.length := by rw [HDn.out]; exact hjD
                obtain ⟨-, gd, od, hna, hgd, hcd⟩ := HRs.out.at (by intro e; rw [e] at hkl; simp at hkl)
                subst hna
                have eK : IK.k = 3 := rfl
                have hc := hcd j hjD
                have eg : dl.getD j IK.d = dl[j] := by simp [List.getD, hkl]
                rw [eg, eK] at hc
                have hoe := HDl.out _ (List.getElem_mem hkl)
                have hue := HUs.out.1 _ (List.getElem_mem hkl)
                have htk : dl.take (j + 1) = dl.take j ++ [dl[j]] := List.take_succ_eq_append_getElem hkl
                obtain ⟨ee, hee⟩ : ∃ x, dl[j] = x := ⟨_, rfl⟩
                rw [hee] at hc hoe hue htk
                obtain ⟨e1, e2, e3⟩ := ee
                have d0 : wr.cell? ⟨gd, od + j * 3, none⟩ = some (.int .i64 e1) := (H2.out.s.x.cell (p := ⟨gd, od + j * 3, none⟩) hgd).trans (hc 0 _ rfl)
                have d1 : wr.cell? ⟨gd, od + j * 3 + 1, none⟩ = some (.int .i64 e2) := (H2.out.s.x.cell (p := ⟨gd, od + j * 3 + 1, none⟩) hgd).trans (hc 1 _ rfl)
                have d2 : wr.cell? ⟨gd, od + j * 3 + 2, none⟩ = some (.int .i64 e3) := (H2.out.s.x.cell (p := ⟨gd, od + j * 3 + 2, none⟩) hgd).trans (hc 2 _ rfl)
                have HOe := Lib.hid hoe
                have HUe := Lib.hid hue
                have HTk := Lib.hid htk
                obtain ⟨bd, hbd⟩ : ∃ q, wr.heap.size = q := ⟨_, rfl⟩
                obtain ⟨wf, hwf⟩ : ∃ q, wr.alloc (.cells #[.int .i64 e1, .int .i64 e2, .int .i64 e3] 25) = q := ⟨_, rfl⟩
                have hb : Below wr.heap.size wr wf := by rw [← hwf]; exact (Below.refl _ _).alloc (Nat.le_refl _) _
                have HBd : Hid (Bk wf bd 25 [.int .i64 e1, .int .i64 e2, .int .i64 e3]) := Lib.hid (by rw [← hwf]; exact Bk.newAg hbd _ [.int .i64 e1, .int .i64 e2, .int .i64 e3])
                have HX' := Lib.hid (Bk.below HX.out hb)
                have HR' := Lib.hid (show wf.ranges (H := Value) Try.prog 25 vR bw (n1 + 1 + 1 + 1) m D _ cnt3 by rw [← hwf]; exact HR.out.alloc _)
                have H2' := Lib.hid (H2.out.below hb)
                obtain ⟨q, hq⟩ : ∃ q, hasI dn (e1, e2, e3) = q := ⟨_, rfl⟩
                have HQ : Hid ((getV ol (e1, e2, e3)).isSome = q) := Lib.hid (by rw [HKe.out, hq])
                have HQd := Lib.hid hq
                have HZu : Hid (((getV ol (e1, e2, e3)).map encU).getD (.agg #[]) = .agg #[]) := Lib.hid (by cases getV ol (e1, e2, e3) <;> rfl)
                clear hcd hc eg eK hoe hue htk hee hkl hb HX HR H2 hq hgd
                go_upto_region 17 with fail
                try rw [hwf]
                try rw [hbd]
                clear hwf hbd d0 d1 d2
                have k0 := Bk.cell HBd.out 0
                have k1 := Bk.cell HBd.out 1
                have k2 := Bk.cell HBd.out 2
                simp only [List.getElem?_cons_zero, List.getElem?_cons_succ] at k0 k1 k2
                obtain ⟨wg, hwg⟩ : ∃ q, wf.alloc (.cells #[] 71) = q := ⟨_, rfl⟩
                have hb : Below wf.heap.size wf wg := by rw [← hwg]; exact (Below.refl _ _).alloc (Nat.le_refl _) _
                have HXg := Lib.hid (Bk.below HX'.out hb)
                have HBg := Lib.hid (Bk.below HBd.out hb)
                have HRg := Lib.hid (show wg.ranges (H := Value) Try.prog 25 vR bw (n1 + 1 + 1 + 1) m D _ cnt3 by rw [← hwg]; exact HR'.out.alloc _)
                have H2g := Lib.hid (H2'.out.below hb)
                clear hb HX' HR'
                cases q with
                | true =>
                  have hdd : (e1, e2, e3) ∈ dn := (hasI_iff _ _).1 HQd.out
                  have H3 := Lib.hid (H2g.out.turn (S' := fun d y => WtS web dn ss d y ∨ (y = (x1, x2, x3) ∧ d ∈ dl.take (j + 1) ∧ d ∉ dn)) (fun d y => by
                    rw [HTk.out, List.mem_append, List.mem_singleton]
                    exact ⟨fun r => r.imp id fun r => ⟨r.1, r.2.1.resolve_right (fun e => r.2.2 (e ▸ hdd)), r.2.2⟩, fun r => r.imp id fun r => ⟨r.1, .inl r.2.1, r.2.2⟩⟩) (Nat.le_succ (ss.length * 900 + j)))
                  go_wp2_with (first
                    | refine wpList_look2_mv rfl _ _ 70 rfl 71 Try.underlying70 encU (B0 + 1 + 1) ol rfl H2'.out.s.ov (e1, e2, e3) rfl HOe.out (.agg #[]) (zeroUn _) (.agg #[]) HZu.out true HQ.out ?_
                    | fail)
                  try rw [hwg]
                  clear hwg k0 k1 k2 H2' HBd HBg H2g HZu HQ
                  go_roundw
                  case rel => exact ⟨j + 1, wl, by go_num, by omega, HXg, HRg, H3, HSh⟩
                  case measure => simp [intOf]; omega
                | false =>
                  have hdd : (e1, e2, e3) ∉ dn := (hasI_false _ _).1 HQd.out
                  go_upto_region 19 with (first
                    | refine wpList_look2_mv rfl _ _ 70 rfl 71 Try.underlying70 encU (B0 + 1 + 1) ol rfl H2'.out.s.ov (e1, e2, e3) rfl HOe.out (.agg #[]) (zeroUn _) (.agg #[]) HZu.out false HQ.out ?_
                    | fail)
                  try rw [hwg]
                  clear hwg k0 k1 k2 H2' HBd HZu HQ
                  have k0 := Bk.cell HBg.out 0
                  have k1 := Bk.cell HBg.out 1
                  have k2 := Bk.cell HBg.out 2
                  have l0 := Bk.cell HXg.out 0
                  have l1 := Bk.cell HXg.out 1
                  have l2 := Bk.cell HXg.out 2
                  simp only [List.getElem?_cons_zero, List.getElem?_cons_succ] at k0 k1 k2 l0 l1 l2
                  obtain ⟨vv, hvv⟩ : ∃ v, ((getV wl (e1, e2, e3)).map encS).getD (.slice none 0 0) = v := ⟨_, rfl⟩
                  obtain ⟨old, hold⟩ : ∃ v, ((getV wl (e1, e2, e3)).map (·.ids)).getD [] = v := ⟨_, rfl⟩
                  have HV := Lib.hid hvv
                  have HOl := Lib.hid hold
                  have hso := H2g.out.wm.start (e1, e2, e3)
                  have hlo := H2g.out.len (e1, e2, e3)
                  have hwn : wl.length ≤ 900 := by
                    have := len_sub H2g.out.wm.mv.nodup H2g.out.sub
                    have h3 := HUl.out
                    simp at this
                    omega
                  have HWn : Hid (wl.length < maxLen) := Lib.hid (by unfold maxLen; omega)
                  rw [hold] at hlo
                  rw [hvv, hold] at hso
                  have HLn : Hid (old.length + [(x1, x2, x3)].length ≤ 1000000) := Lib.hid (by have h1 := HC3.out; have h2 := HMm.out; simp at h1 ⊢; have h3 := HUs.out.2; have h4 := HDn.out; omega)
                  have hvb := HSh.out
                  have hvs : some b10 ≠ vv.ownBlock := fun r => by
                    cases q : getV wl (e1, e2, e3) with
                    | none => rw [q] at hvv; subst hvv; cases r
                    | some st => rw [q] at hvv; subst hvv; exact hvb _ ((getV_some H2g.out.wm.mv.nodup).1 q) r.symm
                  have HVs := Lib.hid hvs
                  obtain ⟨bs, hbs⟩ : ∃ q, wg.heap.size = q := ⟨_, rfl⟩
                  obtain ⟨w8, hw8⟩ : ∃ q, wg.alloc (.cells #[.int .i64 x1, .int .i64 x2, .int .i64 x3] 25) = q := ⟨_, rfl⟩
                  have hb : Below wg.heap.size wg w8 := by rw [← hw8]; exact (Below.refl _ _).alloc (Nat.le_refl _) _
                  have hb1 : n1 + 1 + 1 + 1 + 1 ≤ bs := by rw [← hbs]; exact H2g.out.sz
                  have HRo8 : Hid (IK.Own w8 (n1 + 1 + 1 + 1 + 1) (.slice (some ⟨bs, 0, none⟩) 1 1) [(x1, x2, x3)]) := Lib.hid (by rw [← hw8]; exact own_lit (K := IK) (x1, x2, x3) hbs hb1 rfl)
                  have HX8 := Lib.hid (Bk.below HXg.out hb)
                  have HR8 := Lib.hid (show w8.ranges (H := Value) Try.prog 25 vR bw (n1 + 1 + 1 + 1) m D _ cnt3 by rw [← hw8]; exact HRg.out.alloc _)
                  have H8 := Lib.hid (H2g.out.below hb)
                  have HB8 := Lib.hid (Bk.below HBg.out hb)
                  have HO8 := Lib.hid (hso.below hb)
                  have HZ8 : Hid (n1 + 1 + 1 + 1 + 1 ≤ w8.heap.size) := Lib.hid H8.out.sz
                  clear hb hb1 hso hlo hwn hvb hvs hvv hold H2g HXg HRg
                  go_wp2_with (first
                    | (refine wpList_entry_mv rfl (.tmp 67) (.tmp 68) 77 rfl 23 Try.underlying77 encS (n1 + 1) wl rfl H8.out.wm.mv HWn.out (e1, e2, e3) rfl HOe.out (.slice none 0 0) zeroIds vv HV.out ?_
                       intro st w9 ht9 hback
                       have HT9 := Lib.hid ht9
                       have HBk9 := Lib.hid hback
                       have HO9 := Lib.hid (HO8.out.outA ht9.grown (mt_ne ht9))
                       have HRd9 := Lib.hid ((HRo8.out.outA ht9.grown (mt_ne ht9)).rd)
                       have HZ9 : Hid (n1 + 1 + 1 + 1 + 1 ≤ w9.heap.size) := Lib.hid (Nat.le_trans HZ8.out ht9.grown.size)
                       clear ht9 hback)
                    | (refine Knd.app2 IK (by kernel_rfl) (.tmp 69) (.tmp 71) rfl (n1 + 1 + 1 + 1 + 1) vv old rfl HO9.out bs 1 [(x1, x2, x3)] rfl HRd9.out (by simp) HLn.out HZ9.out ?_
                       intro v10 w10 ho10 hb10 hg10 hn10
                       have HO10 := Lib.hid ho10
                       have HB10 := Lib.hid hb10
                       have HG10 := Lib.hid hg10
                       have HN10 := Lib.hid hn10
                       obtain ⟨a10, c10, hv10⟩ := ho10.slice
                       have HV10 : Hid (v10 = encS ⟨a10, c10, old ++ [(x1, x2, x3)]⟩) := Lib.hid hv10
                       obtain ⟨w11, hr11, hm11, ht11⟩ := HBk9.out w10 ⟨a10, c10, old ++ [(x1, x2, x3)]⟩ (hg10.block (n1 + 1) (by have := HZ9.out; omega) (row_ne_base HO9.out (by omega)))
                       rw [← HV10.out] at hr11
                       have HRun := Lib.hid hr11
                       have HM11 := Lib.hid hm11
                       have HT11 := Lib.hid ht11
                       clear ho10 hb10 hg10 hn10 hv10 hr11 hm11 ht11)
                    | (refine wpList_entrySt rfl (.tmp 67) (.tmp 74) (.tmp 73) 77 rfl (n1 + 1) st v10 w11 rfl rfl rfl HRun.out ?_)
                    | fail)
                  have H11 : Hid (Ry2 w B0 bw (B0 + 1 + 1) n1 web ol dn U (ss ++ [(x1, x2, x3)]) (putV ll (x1, x2, x3) ⟨⟨(j1, j2, j3), sq, dl⟩, some ⟨gd, od, none⟩, nc⟩) (putV wl (e1, e2, e3) ⟨a10, c10, old ++ [(x1, x2, x3)]⟩) (fun d y => WtS web dn ss d y ∨ (y = (x1, x2, x3) ∧ d ∈ dl.take (j + 1) ∧ d ∉ dn)) (ss.length * 900 + j + 1) w11) := Lib.hid (H8.out.put HZ4.out HUe.out HXo.out HT9.out HV.out.symm HOl.out.symm HV10.out HO10.out HB10.out HG10.out HN10.out HM11.out HT11.out fun d' y => by
                    rw [HTk.out, List.mem_append, List.mem_singleton]
                    constructor
                    · rintro (r | ⟨r1, r2 | r2, r3⟩)
                      · exact .inl (.inl r)
                      · exact .inl (.inr ⟨r1, r2, r3⟩)
                      · exact .inr ⟨r2, r1⟩
                    · rintro ((r | ⟨r1, r2, r3⟩) | ⟨r1, r2⟩)
                      · exact .inl r
                      · exact .inr ⟨r1, .inl r2, r3⟩
                      · exact .inr ⟨r2, .inr r1, r1 ▸ hdd⟩)
                  have HSh11 := Lib.hid ((H8.out.wm.grow HT9.out HV.out.symm HOl.out.symm HV10.out HO10.out HG10.out HN10.out HM11.out HT11.out HXo.out).2 b10 (Bk.lt HX8.out) HSh.out)
                  have HX11 := Lib.hid (((HX8.out.grown HT9.out.grown (by have := HZb.out; simp; omega)).grown HG10.out HVs.out).grown HT11.out.grown (by have := HZb.out; simp; omega))
                  have HR11 := Lib.hid (((HR8.out.kept HT9.out.grown (by have := HZ.out; simp; omega) (by simp; omega)).kept HG10.out (row_ne_base HO9.out (by have := HZ.out; omega)) (row_ne_base HO9.out (by omega))).kept HT11.out.grown (by have := HZ.out; simp; omega) (by simp; omega))
                  clear H8 HX8 HR8 HB8 HO8 HZ8 HO9 HRd9 HZ9 HT9 HBk9 HO10 HB10 HG10 HN10 HV10 HRun HM11 HT11 HV HOl HLn HVs HRo8 HWn HSh k0 k1 k2 l0 l1 l2 hw8 hbs HBg
                  go_wp2_with fail
                  go_roundw
                  case rel => exact ⟨j + 1, _, by go_num, by omega, HX11, HR11, H11, HSh11⟩
                  case measure => simp [intOf]; omega
              · have hjD2 : Dn = j := by omega
                subst hjD2
                have hk2 : decide ((Dn : Int) < (Dn : Int)) = false := decide_eq_false (by omega)
                have hk3 : decide (Dn < Dn) = false := decide_eq_false (by omega)
                have H9 := Lib.hid (H2.out.turn (S' := WtS web dn (ss ++ [(x1, x2, x3)])) (j' := (ss ++ [(x1, x2, x3)]).length * 900) (fun d y => by
                  unfold WtS
                  rw [List.mem_append, List.mem_singleton, List.take_of_length_le (by rw [HDn.out]; exact Nat.le_refl _)]
                  constructor
                  · rintro ⟨r1 | r1, r2⟩
                    · exact .inl ⟨r1, r2⟩
                    · subst r1
                      refine .inr ⟨rfl, ?_, r2.2.2⟩
                      have := r2.2.1
                      rwa [HSt.out] at this
                  · rintro (⟨r1, r2⟩ | ⟨r1, r2, r3⟩)
                    · exact ⟨.inl r1, r2⟩
                    · subst r1
                      exact ⟨.inr rfl, hxd, by rw [HSt.out]; exact r2, r3⟩) (by have h1 := HUs.out.2; have h2 := HDn.out; simp only [List.length_append, List.length_cons, List.length_nil]; omega))
                clear H2 HX HSh
                go_wp2_with fail
                go_roundw
                case rel => exact ⟨lf, cnt3, _, _, wl, HR, H9, HMt3, HC3⟩
                case measure => rw [HR.out.left_eq, HLE.out]; exact HLT.out
end Go.Proofs.Ytlckjpjcfalfnaa
