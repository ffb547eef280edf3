/-
  Texts put together: LdY, LdZ, LdX.
-/
import Derived.Test.YtplplehfkfjhnaaLdU
import Derived.Test.YtplplehfkfjhnaaLdO
import Derived.Test.YtplplehfkfjhnaaLdS
import Derived.Test.YtplplehfkfjhnaaLdQ
import Derived.Test.YtplplehfkfjhnaaLdU1
import Derived.Test.YtplplehfkfjhnaaLdK
namespace Go.Proofs.Ytplplehfkfjhnaa
open Go.RowKit
open Bb (quoN thN allB)
set_option linter.unusedSimpArgs false
set_option linter.unusedVariables false
set_option maxRecDepth 100000

theorem thN_len (who ns : List Int) (hw : who.Nodup) (hs : ∀ x ∈ who, x ∈ ns) (hn : ns.Nodup) : thN who ns = (who.length : Int) := by
  unfold thN
  have h1 : (ns.filter fun x => inB x who).length ≤ who.length := nodup_len _ _ (hn.filter _) (fun x hx => by
    have := (List.mem_filter.1 hx).2
    simpa [inB] using this)
  have h2 : who.length ≤ (ns.filter fun x => inB x who).length := nodup_len _ _ hw (fun x hx => List.mem_filter.2 ⟨hs x hx, by simpa [inB] using hx⟩)
  omega
theorem rest_len (who : List Int) : ∀ ns : List Int, ((ns.filter fun n => !inB n who).length : Int) = ns.length - thN who ns
  | [] => rfl
  | a :: l => by
    have h := rest_len who l
    unfold thN at h ⊢
    by_cases q : inB a who = true
    · simp only [List.filter_cons, q, Bool.not_true, if_true, List.length_cons] at h ⊢
      simp only [Bool.false_eq_true, if_false]
      omega
    · have q2 : inB a who = false := by simpa using q
      simp only [List.filter_cons, q2, Bool.not_false, if_true, List.length_cons] at h ⊢
      simp only [Bool.false_eq_true, if_false]
      omega
/-- The nodes 0 .. n-1. -/
def nds (n : Nat) : List Int := (List.range n).map fun (i : Nat) => (i : Int)
theorem nds_len (n : Nat) : (nds n).length = n := by simp [nds]
theorem nds_mem (n : Nat) (x : Int) : x ∈ nds n ↔ 0 ≤ x ∧ x < n := by
  unfold nds
  rw [List.mem_map]
  constructor
  · rintro ⟨a, h1, rfl⟩
    have := List.mem_range.1 h1
    omega
  · rintro ⟨h1, h2⟩
    exact ⟨x.toNat, List.mem_range.2 (by omega), by omega⟩
theorem nds_snoc (n : Nat) : nds (n + 1) = nds n ++ [(n : Int)] := by simp [nds, List.range_succ]
theorem nds_nodup (n : Nat) : (nds n).Nodup := by
  induction n with
  | zero => exact List.nodup_nil
  | succ k ih =>
    rw [nds_snoc]
    exact List.nodup_append.2 ⟨ih, by simp, fun a ha b hb => by
      have := (nds_mem k a).1 ha
      simp at hb
      omega⟩
/-- A lead that took over, and heard these, who know nothing. -/
def pyL (n : Nat) (id : I3) (b : Bal) (ws : List Int) : LSt := ⟨0, nds n, 0, id, b, (0, 0), false, 2, ⟨0, 0, 0, ⟨#[]⟩, ⟨#[]⟩, 0, 0, 0⟩, (0, []), ws, List.replicate ws.length in00⟩
def pyM (id : I3) (b : Bal) (f : Int) : Mg := ⟨6, f, 0, id, b, in00, sn0⟩
def pyS (n : Nat) (id : I3) (b : Bal) (ws : List Int) : LSt := if n < 2 * ws.length then entL (pyL n id b ws) 1 cm0 (0, []) else pyL n id b ws
theorem pyL_add (n : Nat) (id : I3) (b : Bal) (ws : List Int) (f : Int) : addL (pyL n id b ws) (pyM id b f) = pyL n id b (ws ++ [f]) := by
  unfold addL pyL pyM
  simp only [List.length_append, List.length_cons, List.length_nil, Nat.zero_add]
  rw [List.replicate_succ']
theorem pyL_ok (n : Nat) (id : I3) (b : Bal) (ws : List Int) (hn : n ≤ 7) (hd : ws.Nodup) (hs : ∀ x ∈ ws, x ∈ nds n) : LOk (pyL n id b ws) :=
  ⟨by show (nds n).length ≤ 40; rw [nds_len]; omega, hd, hs, by show (List.replicate ws.length in00).length = _; simp; rfl, (fun x hx => by
    have h : x = in00 := (List.mem_replicate.1 hx).2
    subst h; decide), by show ([] : List I3).length ≤ 3000; decide⟩
theorem pyL_eno (n : Nat) (id : I3) (b : Bal) (ws : List Int) (h1 : 1 ≤ n) (hd : ws.Nodup) (hs : ∀ x ∈ ws, x ∈ nds n) : enoL (pyL n id b ws) = decide (n < 2 * ws.length) := by
  unfold enoL
  show decide (quoN ((nds n).length : Int) ≤ thN ws (nds n)) = _
  rw [nds_len, thN_len ws _ hd hs (nds_nodup n)]
  unfold quoN
  rw [if_neg (by omega)]
  by_cases q : n < 2 * ws.length
  · rw [decide_eq_true q, decide_eq_true (by omega)]
  · rw [decide_eq_false q, decide_eq_false (by omega)]
theorem pyL_pass (n : Nat) (id : I3) (b : Bal) (ws : List Int) (f : Int) (hf : f ∈ nds n) : passL (pyL n id b ws) (pyM id b f) = true := by
  unfold passL
  show (!false && (decide (id = id) && inB f (nds n))) = true
  simp [inB, hf]
theorem pyL_fit (n : Nat) (id : I3) (b : Bal) (ws : List Int) (f : Int) : fitL (pyL n id b ws) (pyM id b f) 2 = !inB f ws := by
  unfold fitL
  show (((2 : Int) == 2) && decide (b = b) && !inB f ws) = _
  simp
theorem pyM_V (w : World) (id : I3) (b : Bal) (f : Int) : MgV w (.agg (msE (pyM id b f) (.slice none 0 0) (.slice none 0 0) (.slice none 0 0) (.slice none 0 0)).toArray) (pyM id b f) :=
  ⟨none, 0, none, 0, 0, none, 0, 0, none, 0, 0, rfl, Knd.Rd.nil w, by intro x hx; cases hx⟩
/-- Who is heard behind one more answer. -/
def pyW (ws : List Int) (f : Int) : List Int := if inB f ws then ws else ws ++ [f]
def PyP (n : Nat) (id : I3) (b : Bal) (B g : Nat) (ws : List Int) (w : World) (e : Ending) (w' : World) : Prop := Hid (e = .returned (.bool (decide (n < 2 * ws.length)))) ∧ LdAt w' B g (pyS n id b ws) ∧ Below B w w' ∧ Kt w w'
end Go.Proofs.Ytplplehfkfjhnaa
namespace Go.Proofs.Ytplplehfkfjhnaa
open Go.RowKit
open Bb (quoN thN allB)
set_option linter.unusedSimpArgs false
set_option linter.unusedVariables false
set_option maxRecDepth 100000

theorem py_hear {W0 w : World} {B g n : Nat} {id : I3} {b : Bal} {ws : List Int} {f : Int} (h : LdAt w B g (pyL n id b ws)) (hn1 : 1 ≤ n) (hn : n ≤ 7) (hd : ws.Nodup) (hs : ∀ x ∈ ws, x ∈ nds n) (hf : f ∈ nds n) (h2 : ¬ n < 2 * ws.length) :
    Calls Try.prog 13 #[gP g, .agg (msE (pyM id b f) (.slice none 0 0) (.slice none 0 0) (.slice none 0 0) (.slice none 0 0)).toArray] w (PyP n id b B g (pyW ws f) w) := by
  have hok := pyL_ok n id b ws hn hd hs
  have hW : Below ({ w with heap := #[] } : World).heap.size { w with heap := #[] } w := ⟨rfl, rfl, rfl, Nat.zero_le _, fun k hk => by cases hk⟩
  by_cases q : inB f ws = true
  · have hw : pyW ws f = ws := by unfold pyW; rw [if_pos q]
    rw [hw]
    refine (hear_prepN h hok (pyM_V _ id b f) (Nat.zero_le _) hW (by show (0 : Nat) ≤ 60; omega) (pyL_pass n id b ws f hf) rfl (by rw [pyL_fit, q]; rfl)).mono ?_
    rintro e w' ⟨he, hl, hb, hk⟩
    refine ⟨?_, ?_, hb, hk⟩
    · rw [decide_eq_false h2]; exact he
    · unfold pyS; rw [if_neg h2]; exact hl
  · have q2 : inB f ws = false := by simpa using q
    have hw : pyW ws f = ws ++ [f] := by unfold pyW; rw [if_neg q]
    have hfit : fitL (pyL n id b ws) (pyM id b f) 2 = true := by rw [pyL_fit, q2]; rfl
    have hni : f ∉ ws := by simpa [inB] using q2
    have hd2 : (ws ++ [f]).Nodup := List.nodup_append.2 ⟨hd, by simp, fun a ha c hc => by simp at hc; subst hc; exact fun e => hni (e ▸ ha)⟩
    have hs2 : ∀ x ∈ ws ++ [f], x ∈ nds n := fun x hx => by
      rcases List.mem_append.1 hx with r | r
      · exact hs x r
      · simp at r; subst r; exact hf
    have heno := pyL_eno n id b (ws ++ [f]) hn1 hd2 hs2
    rw [hw]
    by_cases q3 : n < 2 * (ws ++ [f]).length
    · rw [decide_eq_true q3, ← pyL_add] at heno
      refine (hear_prepY h hok (pyM_V _ id b f) (Nat.zero_le _) hW (by show (0 : Nat) ≤ 60; omega) (pyL_pass n id b ws f hf) rfl hfit heno (fun y hy => by
        rw [pyL_add] at hy
        have h0 : y = in00 := (List.mem_replicate.1 hy).2
        subst h0; decide)).mono ?_
      rintro e w' ⟨he, hl, hb, hk⟩
      refine ⟨?_, ?_, hb, hk⟩
      · rw [decide_eq_true q3]; exact he
      · unfold pyS; rw [if_pos q3, ← pyL_add]; exact hl
    · rw [decide_eq_false q3, ← pyL_add] at heno
      refine (hear_prepQ h hok (pyM_V _ id b f) (Nat.zero_le _) hW (by show (0 : Nat) ≤ 60; omega) (pyL_pass n id b ws f hf) rfl hfit heno).mono ?_
      rintro e w' ⟨he, hl, hb, hk⟩
      refine ⟨?_, ?_, hb, hk⟩
      · rw [decide_eq_false q3]; exact he
      · unfold pyS; rw [if_neg q3, ← pyL_add]; exact hl
/-- A block of another type turns: the lead stays. -/
theorem LdAt.stay {w w' : World} {B g : Nat} {L : LSt} (h : LdAt w B g L) {q : Nat} {T : TypeId} (hq : HasT w q T) (h1 : T ≠ 75) (h2 : T ≠ 3) (h3 : T ≠ 38) (h4 : T ≠ 27) (hsz : w.heap.size ≤ w'.heap.size) (hk : ∀ k, k < w.heap.size → k ≠ q → w'.heap[k]? = w.heap[k]?) : LdAt w' B g L := by
  obtain ⟨Bw, vn, vd, vw, vh, h⟩ := h
  have hT : ∀ (k : Nat) (S : TypeId), HasT w k S → S ≠ T → w'.heap[k]? = w.heap[k]? := fun k S hkS hne => hk k (by obtain ⟨cs, fr, e⟩ := hkS; exact (Array.getElem?_eq_some_iff.1 e).1) (HasT.ne hkS hq hne)
  refine ⟨Bw, vn, vd, vw, vh, (hT g _ h.hasT (Ne.symm h1)).trans h.bk, h.lo, h.hi, Nat.le_trans h.sz hsz, h.conf.keepB fun k hk2 => hT k _ (h.conf.blk k hk2).2 (Ne.symm h2), h.cb, h.deps.keepB fun k hk2 => hT k _ (h.deps.blk k hk2).2 (Ne.symm h4), h.ok, h.who.keepB fun k hk2 => hT k _ (h.who.blk k hk2).2 (Ne.symm h2), ?_⟩
  obtain ⟨rs, r1, r2, r3⟩ := h.heard
  exact ⟨rs, r1.keepB (fun k hk2 => hT k _ (r1.blk k hk2).2 (Ne.symm h3)), r2, fun j a c => (r3 j a c).keep (fun k cs fr e => hT k _ ⟨cs, fr, e⟩ (Ne.symm h4))⟩
end Go.Proofs.Ytplplehfkfjhnaa
namespace Go.Proofs.Ytplplehfkfjhnaa
open Go.RowKit
open Bb (quoN thN allB)
set_option linter.unusedSimpArgs false
set_option linter.unusedVariables false
set_option maxRecDepth 100000

def wkC : CM := ⟨1, 0, 0, ⟨#[]⟩, ⟨#[]⟩, 0, 0, 0⟩
def wkL : LSt := ⟨0, [1, 2, 3], 1, (0, 1, 0), (0, 1), (0, 0), true, 0, wkC, (1, []), [], []⟩
def wkI : Ist := ⟨0, (0, 0), (0, 0), cm0, (1, [])⟩
def wkM (n : Int) : Mg := ⟨1, n, 1, (0, 1, 0), (0, 1), wkI, sn0⟩
def wkT : LSt := ⟨0, [1, 2, 3], 2, (0, 1, 0), (1, 2), (0, 0), false, 2, ⟨0, 0, 0, ⟨#[]⟩, ⟨#[]⟩, 0, 0, 0⟩, (0, []), [], []⟩
def wkA : LSt := addL wkL (wkM 1)
def wkB : LSt := addL wkA (wkM 2)
theorem wk1 : propL (addL wkL (wkM 1)) = wkA := by kernel_rfl
theorem wk2 : propL (addL wkA (wkM 2)) = wkB := by kernel_rfl
theorem wk3 : entL wkB 1 wkB.cm (allA (atsL wkB)) = entL wkB 1 wkC (1, []) := by kernel_rfl
theorem wkOkL : LOk wkL := ⟨by decide, by decide, by decide, rfl, by decide, by decide⟩
theorem wkOkA : LOk wkA := LOk.add (p := 0) wkOkL (by decide) (by decide) (by decide)
theorem wkOkB : LOk wkB := LOk.add (p := 0) wkOkA (by decide) (by decide) (by decide)
theorem wkOkS : LOk (entL wkB 1 wkC (1, [])) := wkOkB.ent _ _ _ (by decide)
theorem mgV_lit (w : World) (n : Int) : MgV w (.agg (msE (wkM n) (.slice none 0 0) (.slice none 0 0) (.slice none 0 0) (.slice none 0 0)).toArray) (wkM n) :=
  ⟨none, 0, none, 0, 0, none, 0, 0, none, 0, 0, rfl, Knd.Rd.nil w, by intro x hx; cases hx⟩
theorem run_kind (u : Value) (w : World) : (Instr.field 44 (.agg #[.int .i64 2, .int .i64 1, .int .i64 0, .int .i64 0, .int .i64 1, .int .i64 0, .int .i64 0, .int .i64 1, .int .i64 0, .int .i64 0, .int .i64 0, .int .i64 0, .int .i64 0, .int .i64 1, .int .i64 0, .int .i64 0, .string ⟨#[]⟩, .string ⟨#[]⟩, .int .i64 0, .int .i64 0, .int .i64 0, .int .i64 1, u, .int .i64 0, .slice none 0 0, .slice none 0 0, .slice none 0 0]) 0).run Try.prog w = .ok (.int .i64 2) w := by kernel_rfl
theorem run_bno (a b : Int) (w : World) : (Instr.field 29 (.agg #[.int .i64 a, .int .i64 b]) 0).run Try.prog w = .ok (.int .i64 a) w := by kernel_rfl
theorem it_three (w : World) (x y z : Int) (e : TypeId) : It (w.alloc (.cells #[.int .i64 x, .int .i64 y, .int .i64 z] e)) (.slice (some ⟨w.heap.size, 0, none⟩) 3 3) [x, y, z] := by
  refine ⟨some ⟨w.heap.size, 0, none⟩, 3, rfl, ⟨by simp, .inr ⟨w.heap.size, 0, rfl, by simp, fun i hi => ?_⟩⟩, (fun e => by cases e), by simp, by omega⟩
  have h := (Bk.new w e [.int .i64 x, .int .i64 y, .int .i64 z]).cell (0 + i)
  obtain rfl | rfl | rfl : i = 0 ∨ i = 1 ∨ i = 2 := by simp at hi; omega
  · exact h
  · exact h
  · exact h
set_option maxHeartbeats 8000000 in
theorem works_any (W : World) : Calls Try.prog 8 #[] W fun e w' => e = .returned (.bool true) ∧ Below W.heap.size W w' := by
  go_enter Try.func8, Try.ntmps8
  go_wp2_with fail
  obtain ⟨X, hX⟩ : ∃ X, ((W.alloc (.cells #[.int .i64 1, .int .i64 2, .int .i64 3] 3)).alloc (.cells #[.int .i64 0, .slice (some ⟨W.heap.size, 0, none⟩) 3 3] 24)).alloc (.cells #[.int .i64 0, .int .i64 1, .int .i64 0] 27) = X := ⟨_, rfl⟩
  rw [hX]
  have HIt : Hid (It X (.slice (some ⟨W.heap.size, 0, none⟩) 3 3) [1, 2, 3]) := Lib.hid (by rw [← hX]; exact ((it_three W 1 2 3 3).alloc _).alloc _)
  have HBc : Hid (Bk X (W.heap.size + 1) 24 [.int .i64 0, .slice (some ⟨W.heap.size, 0, none⟩) 3 3]) := Lib.hid (by rw [← hX]; exact (Bk.newAt (by simp) _ [.int .i64 0, .slice (some ⟨W.heap.size, 0, none⟩) 3 3]).old _)
  have HBi : Hid (Bk X (W.heap.size + 1 + 1) 27 [.int .i64 0, .int .i64 1, .int .i64 0]) := Lib.hid (by rw [← hX]; exact Bk.newAt (by simp) _ [.int .i64 0, .int .i64 1, .int .i64 0])
  have HWX : Hid (Below W.heap.size W X) := Lib.hid (by rw [← hX]; exact (((Below.refl _ _).alloc (Nat.le_refl _) _).alloc (by simp) _).alloc (by simp; omega) _)
  clear hX
  refine (new_any 0 _ _ [1, 2, 3] 1 0 1 0 wkC 1 _ [] X HIt.out (by decide) (Knd.Rd.nil _) (fun x hx => by cases hx) (by decide)).mono ?_
  rintro e w3 ⟨g, he, hl, hb⟩
  rw [he.out]
  have HL3 : Hid (LdAt w3 X.heap.size g wkL) := Lib.hid hl
  have HX3 : Hid (Below X.heap.size X w3) := Lib.hid hb
  have i0 := (HBi.out.below hb).cell 0
  have i1 := (HBi.out.below hb).cell 1
  have i2 := (HBi.out.below hb).cell 2
  simp only [List.getElem?_cons_zero, List.getElem?_cons_succ] at i0 i1 i2
  clear he hl hb
  have HZ3 := Lib.hid (Bk.new w3 44 [.int .i64 0, .int .i64 0, .int .i64 0, .int .i64 0, .int .i64 0, .int .i64 0, .int .i64 0, .int .i64 0, .int .i64 0, .int .i64 0, .int .i64 0, .int .i64 0, .int .i64 0, .int .i64 0, .int .i64 0, .int .i64 0, .string ⟨#[]⟩, .string ⟨#[]⟩, .int .i64 0, .int .i64 0, .int .i64 0, .int .i64 0, .slice none 0 0, .int .i64 0, .slice none 0 0, .slice none 0 0, .slice none 0 0])
  have HS3 := Lib.hid (bk_setRow (ds := [.int .i64 1, .int .i64 1, .int .i64 1, .int .i64 0, .int .i64 1, .int .i64 0, .int .i64 0, .int .i64 1, .int .i64 0, .int .i64 0, .int .i64 0, .int .i64 0, .int .i64 0, .int .i64 0, .int .i64 0, .int .i64 0, .string ⟨#[]⟩, .string ⟨#[]⟩, .int .i64 0, .int .i64 0, .int .i64 0, .int .i64 1, .slice none 0 0, .int .i64 0, .slice none 0 0, .slice none 0 0, .slice none 0 0]) HZ3.out)
  go_wp2_with (first
    | refine _root_.Go.wpList_store_row rfl _ _ _ rfl w3.heap.size #[.int .i64 1, .int .i64 1, .int .i64 1, .int .i64 0, .int .i64 1, .int .i64 0, .int .i64 0, .int .i64 1, .int .i64 0, .int .i64 0, .int .i64 0, .int .i64 0, .int .i64 0, .int .i64 0, .int .i64 0, .int .i64 0, .string ⟨#[]⟩, .string ⟨#[]⟩, .int .i64 0, .int .i64 0, .int .i64 0, .int .i64 1, .slice none 0 0, .int .i64 0, .slice none 0 0, .slice none 0 0, .slice none 0 0] rfl rfl 44 _ HZ3.out infoMs rfl (all_toL (l := [.int .i64 1, .int .i64 1, .int .i64 1, .int .i64 0, .int .i64 1, .int .i64 0, .int .i64 0, .int .i64 1, .int .i64 0, .int .i64 0, .int .i64 0, .int .i64 0, .int .i64 0, .int .i64 0, .int .i64 0, .int .i64 0, .string ⟨#[]⟩, .string ⟨#[]⟩, .int .i64 0, .int .i64 0, .int .i64 0, .int .i64 1, .slice none 0 0, .int .i64 0, .slice none 0 0, .slice none 0 0, .slice none 0 0]) rfl) ?_
    | refine _root_.Go.wpList_load_row rfl _ _ rfl w3.heap.size rfl 44 _ _ _ HS3.out Try.underlying44 rfl infoMs ?_
    | fail)
  obtain ⟨Y, hY⟩ : ∃ Y, (w3.alloc (.cells #[.int .i64 0, .int .i64 0, .int .i64 0, .int .i64 0, .int .i64 0, .int .i64 0, .int .i64 0, .int .i64 0, .int .i64 0, .int .i64 0, .int .i64 0, .int .i64 0, .int .i64 0, .int .i64 0, .int .i64 0, .int .i64 0, .string ⟨#[]⟩, .string ⟨#[]⟩, .int .i64 0, .int .i64 0, .int .i64 0, .int .i64 0, .slice none 0 0, .int .i64 0, .slice none 0 0, .slice none 0 0, .slice none 0 0] 44)).setRow w3.heap.size #[.int .i64 1, .int .i64 1, .int .i64 1, .int .i64 0, .int .i64 1, .int .i64 0, .int .i64 0, .int .i64 1, .int .i64 0, .int .i64 0, .int .i64 0, .int .i64 0, .int .i64 0, .int .i64 0, .int .i64 0, .int .i64 0, .string ⟨#[]⟩, .string ⟨#[]⟩, .int .i64 0, .int .i64 0, .int .i64 0, .int .i64 1, .slice none 0 0, .int .i64 0, .slice none 0 0, .slice none 0 0, .slice none 0 0] = Y := ⟨_, rfl⟩
  rw [hY]
  have HBx : Hid (Bk Y w3.heap.size 44 [.int .i64 1, .int .i64 1, .int .i64 1, .int .i64 0, .int .i64 1, .int .i64 0, .int .i64 0, .int .i64 1, .int .i64 0, .int .i64 0, .int .i64 0, .int .i64 0, .int .i64 0, .int .i64 0, .int .i64 0, .int .i64 0, .string ⟨#[]⟩, .string ⟨#[]⟩, .int .i64 0, .int .i64 0, .int .i64 0, .int .i64 1, .slice none 0 0, .int .i64 0, .slice none 0 0, .slice none 0 0, .slice none 0 0]) := Lib.hid (by rw [← hY]; exact HS3.out)
  have hwy : Below w3.heap.size w3 Y := by rw [← hY]; exact below_setRow ((Below.refl _ _).alloc (Nat.le_refl _) _) (Nat.le_refl _) _
  have HL4 := Lib.hid (HL3.out.below hwy)
  have HX4 := Lib.hid (HX3.out.trans (hwy.mono HX3.out.size))
  obtain ⟨q, hq⟩ : ∃ q, w3.heap.size = q := ⟨_, rfl⟩
  have hXq : X.heap.size ≤ q := hq ▸ HX3.out.size
  rw [hq] at HBx
  simp only [hq]
  clear hY HZ3 HS3 HL3 HX3 i0 i1 i2 hwy
  have hW4 : Below ({ Y with heap := #[] } : World).heap.size { Y with heap := #[] } Y := ⟨rfl, rfl, rfl, Nat.zero_le _, fun k hk => by cases hk⟩
  refine (hear_preY HL4.out wkOkL (mgV_lit _ 1) (Nat.zero_le _) hW4 (by decide) (by kernel_rfl) rfl (by kernel_rfl)).mono ?_
  rintro e w5 ⟨he, hl, hb, hk⟩
  rw [wk1] at he hl
  rw [show (wkA.ph != wkL.ph) = false from by kernel_rfl] at he
  rw [he.out]
  have HL5 := Lib.hid hl
  have HX5 := Lib.hid (HX4.out.trans hb)
  have HB5 : Hid (Bk w5 q 44 [.int .i64 1, .int .i64 1, .int .i64 1, .int .i64 0, .int .i64 1, .int .i64 0, .int .i64 0, .int .i64 1, .int .i64 0, .int .i64 0, .int .i64 0, .int .i64 0, .int .i64 0, .int .i64 0, .int .i64 0, .int .i64 0, .string ⟨#[]⟩, .string ⟨#[]⟩, .int .i64 0, .int .i64 0, .int .i64 0, .int .i64 1, .slice none 0 0, .int .i64 0, .slice none 0 0, .slice none 0 0, .slice none 0 0]) := Lib.hid (hk.keep q _ _ _ HBx.out (by decide) (by decide) (by decide))
  have HB6 : Hid (Bk (w5.setCell ⟨q, 1, none⟩ (.int .i64 2)) q 44 [.int .i64 1, .int .i64 2, .int .i64 1, .int .i64 0, .int .i64 1, .int .i64 0, .int .i64 0, .int .i64 1, .int .i64 0, .int .i64 0, .int .i64 0, .int .i64 0, .int .i64 0, .int .i64 0, .int .i64 0, .int .i64 0, .string ⟨#[]⟩, .string ⟨#[]⟩, .int .i64 0, .int .i64 0, .int .i64 0, .int .i64 1, .slice none 0 0, .int .i64 0, .slice none 0 0, .slice none 0 0, .slice none 0 0]) := Lib.hid (HB5.out.set 1 (.int .i64 2))
  have m1 := HB5.out.cell 1
  have f1 := HB5.out.fz 1
  simp only [List.getElem?_cons_zero, List.getElem?_cons_succ] at m1
  clear he hl hb hk hW4 HL4 HX4 HBx
  go_wp2_with (first
    | refine _root_.Go.wpList_load_row rfl _ _ rfl q rfl 44 _ _ _ HB6.out Try.underlying44 rfl infoMs ?_
    | fail)
  obtain ⟨Z, hZ⟩ : ∃ Z, w5.setCell ⟨q, 1, none⟩ (.int .i64 2) = Z := ⟨_, rfl⟩
  rw [hZ]
  have hon : OnlyG w5 Z q := by rw [← hZ]; exact (OnlyG.refl _ _).set _ _
  have HL6 : Hid (LdAt Z X.heap.size g wkA) := Lib.hid (HL5.out.stay ⟨_, _, HB5.out⟩ (by decide) (by decide) (by decide) (by decide) (Nat.le_of_eq hon.size.symm) (fun k _ hk => hon.block k hk))
  have HX6 := Lib.hid (HX5.out.trans (hon.below.mono hXq))
  clear hon hZ HL5 HX5 HB5 HB6 m1 f1
  have hW6 : Below ({ Z with heap := #[] } : World).heap.size { Z with heap := #[] } Z := ⟨rfl, rfl, rfl, Nat.zero_le _, fun k hk => by cases hk⟩
  refine (hear_preY HL6.out wkOkA (mgV_lit _ 2) (Nat.zero_le _) hW6 (by decide) (by kernel_rfl) rfl (by kernel_rfl)).mono ?_
  rintro e w7 ⟨he, hl, hb, hk⟩
  rw [wk2] at he hl
  rw [show (wkB.ph != wkA.ph) = false from by kernel_rfl] at he
  rw [he.out]
  have HL7 := Lib.hid hl
  have HX7 := Lib.hid (HX6.out.trans hb)
  clear he hl hb hk hW6 HL6 HX6
  go_wp2_with fail
  refine (slow_yes HL7.out wkOkB (by kernel_rfl)).mono ?_
  rintro e w8 ⟨he, hl, hb⟩
  rw [wk3] at hl
  rw [he.out]
  have HL8 := Lib.hid hl
  have HX8 := Lib.hid (HX7.out.trans hb)
  have c0 := (HBc.out.below HX8.out).cell 0
  have c1 := (HBc.out.below HX8.out).cell 1
  have i0 := (HBi.out.below HX8.out).cell 0
  have i1 := (HBi.out.below HX8.out).cell 1
  have i2 := (HBi.out.below HX8.out).cell 2
  simp only [List.getElem?_cons_zero, List.getElem?_cons_succ] at c0 c1 i0 i1 i2
  clear he hl hb HL7 HX7
  go_wp2_with fail
  refine (take_any 0 _ _ [1, 2, 3] 2 0 1 0 1 2 w8 (HIt.out.below HX8.out) (by decide)).mono ?_
  rintro e w9 ⟨g2, he, hl, hb⟩
  rw [he.out]
  have HT9 : Hid (LdAt w9 w8.heap.size g2 wkT) := Lib.hid hl
  have HL9 := Lib.hid (HL8.out.below hb)
  have HX9 := Lib.hid (HX8.out.trans (hb.mono HX8.out.size))
  clear he hl hb HL8 c0 c1 i0 i1 i2
  go_wp2_with fail
  refine (phase_any HL9.out).mono ?_
  rintro e _ ⟨rfl, rfl⟩
  rw [show (entL wkB 1 wkC (1, [])).ph = 1 from rfl]
  go_wp2_with fail
  refine (ask1_any HL9.out wkOkS rfl).mono ?_
  rintro e w10 ⟨u, he, -, hb⟩
  rw [he.out]
  rw [show (msE (askL (entL wkB 1 wkC (1, []))) u (.slice none 0 0) (.slice none 0 0) (.slice none 0 0)).toArray = #[.int .i64 2, .int .i64 1, .int .i64 0, .int .i64 0, .int .i64 1, .int .i64 0, .int .i64 0, .int .i64 1, .int .i64 0, .int .i64 0, .int .i64 0, .int .i64 0, .int .i64 0, .int .i64 1, .int .i64 0, .int .i64 0, .string ⟨#[]⟩, .string ⟨#[]⟩, .int .i64 0, .int .i64 0, .int .i64 0, .int .i64 1, u, .int .i64 0, .slice none 0 0, .slice none 0 0, .slice none 0 0] from by kernel_rfl]
  have HL10 := Lib.hid (HL9.out.below hb)
  have HT10 := Lib.hid (HT9.out.below hb)
  have HX10 := Lib.hid (HX9.out.trans (hb.mono HX9.out.size))
  clear he hb HL9 HX9 HT9
  have hkd := run_kind u w10
  go_wp2_with fail
  clear hkd
  refine (wait_any HL10.out wkOkS).mono ?_
  rintro e w11 ⟨v, he, ho, hb⟩
  rw [he.out]
  rw [show wtL (entL wkB 1 wkC (1, [])) = [1, 2, 3] from by kernel_rfl] at ho
  obtain ⟨av, cv, hv, _⟩ := (ho.it (by decide)).row
  subst hv
  have HT11 := Lib.hid (HT10.out.below hb)
  have HX11 := Lib.hid (HX10.out.trans (hb.mono HX10.out.size))
  clear he hb ho HL10 HX10 HT10
  simp only [List.length_cons, List.length_nil, Nat.zero_add, Nat.reduceAdd]
  go_wp2_with fail
  refine (phase_any HT11.out).mono ?_
  rintro e _ ⟨rfl, rfl⟩
  rw [show wkT.ph = 2 from rfl]
  go_wp2_with fail
  refine (ballot_any HT11.out).mono ?_
  rintro e w12 ⟨he, hb⟩
  rw [show balL wkT = (1, 2) from by kernel_rfl] at he
  rw [he]
  have HX12 := Lib.hid (HX11.out.trans (hb.mono HX11.out.size))
  clear he hb
  have hbn := run_bno 1 2 w12
  go_wp2_with fail
  go_ret
  exact ⟨rfl, HWX.out.trans (HX12.out.mono HWX.out.size)⟩
end Go.Proofs.Ytplplehfkfjhnaa
