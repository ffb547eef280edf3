/-
  A region that draws its order, whose operations only read: that the order of the text serves, told by a check that the kernel can run over a hundred operations and more.
-/
import Derived.Deep.Quiet
namespace Go.Proofs.YtchhcaoondfpiaaGreat
open Go

/-- The operations from the k-th on: each waits for earlier ones alone, and is apart from each later one that does not wait for it. -/
def lexOK (md : Region.Mode) (ops : Array Oper) : List Oper → Nat → Bool
  | [], _ => true
  | o :: rest, k => (o.after.all fun e => !Region.binds md e || decide (e.on < k)) && (rest.all fun oj => oj.after.any (fun e => Region.binds md e && e.on == k) || o.apart ops oj) && lexOK md ops rest (k + 1)
theorem lexOK_from (md : Region.Mode) (ops : Array Oper) : ∀ (l : List Oper) (k : Nat) (listed : Array Bool), k + l.length = ops.size → (∀ j, l[j]? = ops[k + j]?) → listed.size = ops.size → (∀ j d, j < ops.size → listed.getD j d = decide (j < k)) → lexOK md ops l k = true → Region.lexFrom md ops l.length k listed = true
  | [], k, listed, hn, _, hs, hL, _ => by
    show (Region.ready md ops listed).isEmpty = true
    rw [List.isEmpty_iff]
    unfold Region.ready
    rw [List.filter_eq_nil_iff]
    intro i hi
    have hi2 := List.mem_range.1 hi
    rw [hL i true hi2, decide_eq_true (by simp at hn; omega)]
    simp
  | o :: rest, k, listed, hn, hl, hs, hL, h => by
    have hk : k < ops.size := by simp at hn; omega
    have h0 : ops[k]? = some o := by simpa using (hl 0).symm
    simp only [lexOK, Bool.and_eq_true] at h
    obtain ⟨⟨h1, h2⟩, h3⟩ := h
    show ((Region.ready md ops listed).contains k && Region.free md ops listed k && Region.lexFrom md ops rest.length (k + 1) (listed.setIfInBounds k true)) = true
    rw [Bool.and_eq_true, Bool.and_eq_true]
    refine ⟨⟨?_, ?_⟩, ?_⟩
    · rw [List.contains_iff_mem]
      unfold Region.ready
      rw [List.mem_filter]
      refine ⟨List.mem_range.2 hk, ?_⟩
      rw [hL k true hk, decide_eq_false (Nat.lt_irrefl k), h0]
      simp only [Option.map_some, Option.getD_some, Bool.not_false, Bool.true_and]
      rw [Array.all_eq_true_iff_forall_mem] at h1 ⊢
      intro e he
      have q := h1 e he
      rw [Bool.or_eq_true] at q ⊢
      rcases q with q | q
      · exact .inl q
      · have q2 : e.on < k := of_decide_eq_true q
        exact .inr (by rw [hL e.on false (by omega)]; exact q)
    · unfold Region.free
      rw [h0]
      simp only [List.all_eq_true, List.mem_range]
      intro j hj
      rw [hL j true hj]
      by_cases hjk : j = k
      · subst hjk; simp
      · by_cases hlt : j < k
        · rw [decide_eq_true hlt]; simp
        · have hr : rest[j - (k + 1)]? = ops[j]? := by
            have q := hl (j - k)
            rw [show j - k = (j - (k + 1)) + 1 by omega, List.getElem?_cons_succ] at q
            rw [q]
            congr 1
            omega
          cases ho : ops[j]? with
          | none => simp
          | some oj =>
            rw [ho] at hr
            have q := List.all_eq_true.1 h2 oj (List.mem_of_getElem? hr)
            simp only
            rw [q, Bool.or_true]
    · refine lexOK_from md ops rest (k + 1) _ (by simp at hn; omega) (fun j => ?_) (by simpa using hs) (fun j d hj => ?_) h3
      · have q := hl (j + 1)
        rw [List.getElem?_cons_succ] at q
        rw [q]
        congr 1
        omega
      · rw [Array.getD_eq_getD_getElem?, Array.getElem?_setIfInBounds]
        by_cases e : k = j
        · subst e
          rw [if_pos rfl, if_pos (by omega)]
          simp
        · rw [if_neg e, ← Array.getD_eq_getD_getElem?, hL j d hj]
          exact decide_eq_decide.2 (by omega)
theorem lexOK_lexB {md : Region.Mode} {l : List Oper} (hs : Region.noSelect l.toArray = true) (h : lexOK md l.toArray l 0 = true) : Region.lexB md l.toArray = true := by
  unfold Region.lexB
  rw [Bool.and_eq_true]
  refine ⟨hs, ?_⟩
  have q := lexOK_from md l.toArray l 0 (Array.replicate l.toArray.size false) (by simp) (fun j => by simp) (by simp) (fun j d hj => by
    rw [Array.getD_eq_getD_getElem?, Array.getElem?_replicate, if_pos hj]
    simp) h
  simpa using q
end Go.Proofs.YtchhcaoondfpiaaGreat
