/-
  Graph: what the laws of Order ask.
-/
import Derived.Test.YtlckjpjcfalfnaaLc
import Derived.Test.YtlckjpjcfalfnaaOs
namespace Go.Proofs.Ytlckjpjcfalfnaa
open Go.RowKit Go.Sort
open Go.WideMaps
set_option linter.unusedSimpArgs false
set_option linter.unusedVariables false
set_option maxRecDepth 100000

/-- A node that came in, in any later world. -/
theorem node_at {w : World} {nv : List NV} {a : Option Addr} {N c : Nat} (h : NRow w (.slice a N c) nv) (i : Nat) (hi : i < nv.length) : ∃ g off j1 j2 j3 sq dl na nc, a = some ⟨g, off, none⟩ ∧ nv[i] = (⟨⟨(j1, j2, j3), sq, dl⟩, na, nc⟩ : NV) ∧ okI (j1, j2, j3) ∧ okL dl ∧ ∀ W, Below w.heap.size w W →
    W.cell? ⟨g, off + i * 5, none⟩ = some (.int .i64 j1) ∧ W.cell? ⟨g, off + i * 5 + 1, none⟩ = some (.int .i64 j2) ∧ W.cell? ⟨g, off + i * 5 + 2, none⟩ = some (.int .i64 j3) ∧ W.cell? ⟨g, off + i * 5 + 3, none⟩ = some (.int .i64 sq) ∧ W.cell? ⟨g, off + i * 5 + 4, none⟩ = some (.slice na dl.length nc) ∧ IK.Rd W (.slice na dl.length nc) dl := by
  obtain ⟨a', c', e, _, hel⟩ := h.el
  simp only [Value.slice.injEq] at e
  obtain ⟨rfl, rfl, rfl⟩ := e
  obtain ⟨g, off, ha, hg, hc⟩ := hel i hi
  have hok := h.ok _ (List.getElem_mem hi)
  obtain ⟨nn, hnn⟩ : ∃ n, nv[i] = n := ⟨_, rfl⟩
  rw [hnn] at hc hok
  obtain ⟨⟨⟨j1, j2, j3⟩, sq, dl⟩, na, nc⟩ := nn
  refine ⟨g, off, j1, j2, j3, sq, dl, na, nc, ha, hnn, hok.1, hok.2.1, fun W hb => ?_⟩
  have q := fun (k : Nat) (u : Value) (hu : (ndC ⟨⟨(j1, j2, j3), sq, dl⟩, na, nc⟩)[k]? = some u) => (hb.cell (p := ⟨g, off + i * 5 + k, none⟩) hg).trans (hc k u hu)
  exact ⟨q 0 _ rfl, q 1 _ rfl, q 2 _ rfl, q 3 _ rfl, q 4 _ rfl, hok.2.2.below hb⟩
def RbIs (b : Bool) (P : Prop) : Prop := b = true ↔ P
theorem RbIs.iff {b : Bool} {P : Prop} (h : RbIs b P) : b = true ↔ P := h
theorem webL_get {nv : List NV} (h : (nv.map (·.d.id)).Nodup) {n : NV} (hn : n ∈ nv) : getV (webL nv) n.d.id = some n := by
  refine (getV_some (webL_nodup nv)).2 ?_
  rw [webL_all nv h]
  exact List.mem_map.2 ⟨n, hn, rfl⟩
theorem webL_steps {nv : List NV} (h : (nv.map (·.d.id)).Nodup) {n : NV} (hn : n ∈ nv) : stepsV (webL nv) n.d.id = n.d.dl := by
  unfold stepsV ndOf
  rw [webL_get h hn]
  rfl
theorem cur_steps {web cur : List (I3 × NV)} {dn : List I3} (h : RdyIs web cur dn) {x : I3} (hx : x ∈ keysV cur) : stepsV cur x = stepsV web x := by
  obtain ⟨n, q⟩ := mem_keys.1 hx
  unfold stepsV ndOf
  rw [q, (h.sub x n q).1]
/-- The answer of Order, told by what leads where; and Flat's. -/
theorem flat_few {nv : List NV} {cur : List (I3 × NV)} {dn : List I3} {os : List (List I3)} (h : OrdSem cur os) (hr : RdyIs (webL nv) cur dn) (hn : (keysV cur).Nodup) (hl : nv.length ≤ 14) : os.flatten.length ≤ 14 ∧ os.length ≤ 14 := by
  have h1 := len_sub h.nd (k := keysV cur) fun x hx => (h.mem x).1 hx
  have h2 := hr.len hn
  have h3 := webL_len nv
  have h0 : (keysV cur).length = cur.length := by simp [keysV]
  have h4 : ∀ l : List (List I3), (∀ g ∈ l, g ≠ []) → l.length ≤ l.flatten.length := fun l => by
    induction l with
    | nil => intro _; exact Nat.le_refl _
    | cons g l ih =>
      intro hg
      have := ih (fun k hk => hg k (List.mem_cons_of_mem _ hk))
      have := List.length_pos_iff.2 (hg g (List.mem_cons_self ..))
      rw [List.length_cons, List.flatten_cons, List.length_append]
      omega
  have h5 := h4 os (fun g hg => (h.srt g hg).1)
  omega
end Go.Proofs.Ytlckjpjcfalfnaa
