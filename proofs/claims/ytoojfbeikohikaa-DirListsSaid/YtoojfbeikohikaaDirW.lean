/-
  The document's example, and what the laws say of the entries; no program.
-/
import Derived.Test.YtoojfbeikohikaaDirV
namespace Go.Proofs.Ytoojfbeikohikaa
set_option linter.unusedSimpArgs false
set_option linter.unusedVariables false

abbrev pA : ByteArray := { data := #[47, 97] }
abbrev vX : ByteArray := { data := #[120] }
abbrev vY : ByteArray := { data := #[121] }
abbrev pR : ByteArray := { data := #[47] }
abbrev v0 : ByteArray := { data := #[] }
theorem w1_is : appD [] 1 pA vX 0 = (⟨0, v0, 1, []⟩, [(pA, vX, 1)]) := by rfl
theorem w2_is : appD [(pA, vX, 1)] 3 pA vY 0 = (⟨0, v0, 2, []⟩, [(pA, vY, 2)]) := by rfl
theorem w3_is : appD [(pA, vY, 2)] 5 pR v0 0 = (⟨0, v0, 0, [{ data := #[97] }]⟩, [(pA, vY, 2)]) := by rfl
theorem app4 {l : List E3} {p : ByteArray} (hv : vld p = true) (v : ByteArray) (ver : Int) : appD l 4 p v ver = gtD l p := by
  have : rgt 4 p v = true := by simp [rgt, hv]
  simp [appD, this]
theorem app6 {l : List E3} {p v : ByteArray} (hv : vld p = true) (hr : p ≠ pth []) (hs : v.size ≤ 64) (ver : Int) : appD l 6 p v ver = casD l p v ver := by
  have : rgt 6 p v = true := by simp [rgt, hv, hr, hs]
  simp [appD, this]
theorem app_novld {l : List E3} {p : ByteArray} (hv : vld p = false) (op : Int) (v : ByteArray) (ver : Int) : appD l op p v ver = (bad 1, l) := by
  have : rgt op p v = false := by simp [rgt, hv]
  simp [appD, this]
theorem app6_root (l : List E3) (v : ByteArray) (ver : Int) : appD l 6 (pth []) v ver = (bad 1, l) := by
  have : rgt 6 (pth []) v = false := by simp [rgt]
  simp [appD, this]
/-- Compare and set. -/
theorem cas_law {l : List E3} (h : RightD l) (p a b : ByteArray) (ha : a.size ≤ 64) (hb : b.size ≤ 64) (u : ByteArray) (z ver : Int) :
    (if ((appD l 4 p u z).1.err ≠ 0 ∨ p = pth []) then ((appD l 6 p a ver).1.err ≠ 0 ∧ (appD (appD l 6 p a ver).2 6 p b ver).1.err ≠ 0)
     else if (appD l 4 p u z).1.ver ≠ ver then ((appD l 6 p a ver).1.err = 5 ∧ (appD l 6 p a ver).1.ver = (appD l 4 p u z).1.ver ∧ (appD (appD l 6 p a ver).2 6 p b ver).1.err = 5)
     else ((appD l 6 p a ver).1.err = 0 ∧ (appD l 6 p a ver).1.ver = ver + 1 ∧ (appD (appD l 6 p a ver).2 6 p b ver).1.err = 5)) := by
  by_cases hr : p = pth []
  · subst hr
    rw [if_pos (.inr rfl), app6_root, app6_root]
    simp [bad]
  cases hv : vld p with
  | false =>
    rw [app_novld hv, app_novld hv, app_novld hv]
    simp [bad]
  | true =>
    rw [app4 hv, app6 hv hr ha, app6 hv hr hb]
    have ht : thrD l p = (fndD l p).isSome := thrD_no hr
    cases hf : fndD l p with
    | none =>
      have e1 : gtD l p = (bad 2, l) := by simp [gtD, ht, hf]
      have e2 : ∀ x, casD l p x ver = (bad 2, l) := fun x => by simp [casD, ht, hf, setD]
      rw [e1, e2 a, e2 b]
      simp [bad]
    | some x =>
      obtain ⟨w, n⟩ := x
      have e1 : gtD l p = (⟨0, w, n, []⟩, l) := by simp [gtD, ht, hf]
      rw [e1]
      rw [if_neg (by simp [hr])]
      by_cases hn : n = ver
      · subst hn
        have e2 : casD l p a n = (⟨0, { data := #[] }, n + 1, []⟩, putD l p a (n + 1)) := by simp [casD, ht, hf, setD]
        rw [e2]
        have ho : okP p := okP_ne hv hr
        have hf2 : fndD (putD l p a (n + 1)) p = some (a, n + 1) := by rw [fndD_put h.rise h.keys ho, if_pos rfl]
        have e3 : casD (putD l p a (n + 1)) p b n = (⟨5, { data := #[] }, n + 1, []⟩, putD l p a (n + 1)) := by
          simp only [casD, thrD_no hr, hf2]
          rw [if_pos (by simp <;> omega)]
          rfl
        simp only [e3]
        simp
      · have e2 : ∀ x, casD l p x ver = (⟨5, { data := #[] }, n, []⟩, l) := fun x => by
          simp only [casD, ht, hf]
          rw [if_pos (by simpa using hn)]
          rfl
        rw [e2 a, e2 b]
        simp [hn]
theorem app5 {l : List E3} {p : ByteArray} (hv : vld p = true) (v : ByteArray) (ver : Int) : appD l 5 p v ver = lsD l p := by
  have : rgt 5 p v = true := by simp [rgt, hv]
  simp [appD, this]
theorem app2 {l : List E3} {p : ByteArray} (hv : vld p = true) (hr : p ≠ pth []) (v : ByteArray) (ver : Int) : appD l 2 p v ver = rmD l p := by
  have : rgt 2 p v = true := by simp [rgt, hv, hr]
  simp [appD, this]
theorem app1 {l : List E3} {p v : ByteArray} (hv : vld p = true) (hs : v.size ≤ 64) (ver : Int) : appD l 1 p v ver = crD l p v := by
  have : rgt 1 p v = true := by simp [rgt, hv, hs]
  simp [appD, this]
theorem app2_root (l : List E3) (v : ByteArray) (ver : Int) : appD l 2 (pth []) v ver = (bad 1, l) := by
  have : rgt 2 (pth []) v = false := by simp [rgt]
  simp [appD, this]
/-- Deleted, and made again. -/
theorem deletes_law {l : List E3} (h : RightD l) (p v : ByteArray) (hs : v.size ≤ 64) (u1 u2 u4 : ByteArray) (z1 z2 z3 z4 : Int) :
    (if ((appD l 5 p u1 z1).1.err ≠ 0 ∨ p = pth []) then (appD l 2 p u2 z2).1.err ≠ 0
     else if 0 < (appD l 5 p u1 z1).1.names.length then (appD l 2 p u2 z2).1.err = 4
     else ((appD l 2 p u2 z2).1.err = 0 ∧ (appD (appD l 2 p u2 z2).2 1 p v z3).1.err = 0 ∧ (appD (appD l 2 p u2 z2).2 1 p v z3).1.ver = 1 ∧
       (appD (appD (appD l 2 p u2 z2).2 1 p v z3).2 4 p u4 z4).1.val = v ∧ (appD (appD (appD l 2 p u2 z2).2 1 p v z3).2 4 p u4 z4).1.ver = 1)) := by
  by_cases hr : p = pth []
  · subst hr
    rw [if_pos (.inr rfl), app2_root]
    simp [bad]
  cases hv : vld p with
  | false =>
    rw [app_novld hv, app_novld hv]
    simp [bad]
  | true =>
    rw [app5 hv, app2 hv hr]
    have ht : thrD l p = (fndD l p).isSome := thrD_no hr
    cases hf : fndD l p with
    | none =>
      have e1 : lsD l p = (bad 2, l) := by simp [lsD, ht, hf]
      have e2 : rmD l p = (bad 2, l) := by simp [rmD, ht, hf]
      rw [e1, e2]
      simp [bad]
    | some x =>
      have e1 : lsD l p = (⟨0, { data := #[] }, 0, kidD l p⟩, l) := by simp [lsD, ht, hf]
      rw [e1, if_neg (by simp [hr])]
      by_cases hk : 0 < (kidD l p).length
      · have e2 : rmD l p = (bad 4, l) := by simp only [rmD, ht, hf]; rw [if_pos (by simp), if_pos hk]
        rw [if_pos hk, e2]
        rfl
      · have e2 : rmD l p = (bad 0, delD l p) := by simp only [rmD, ht, hf]; rw [if_pos (by simp), if_neg hk]
        rw [if_neg hk, e2]
        have ho : okP p := okP_ne hv hr
        have h3 : fndD (delD l p) p = none := by rw [fndD_del h.rise, if_pos rfl]
        have h4 : thrD (delD l p) p = false := by rw [thrD_no hr, h3]; rfl
        have hm := (fndD_some (v := x.1) (n := x.2) h.rise).1 hf
        have h5 : thrD (delD l p) (par p) = true := by
          rw [thrD_iff]
          rcases thrD_iff.1 (h.up _ hm) with q | ⟨e, he, q⟩
          · exact .inl q
          · exact .inr ⟨e, mem_delD.2 ⟨he, fun e2 => lsr_ne (par_lsr ho) (q.symm.trans e2)⟩, q⟩
        rw [app1 hv hs]
        have e3 : crD (delD l p) p v = (⟨0, { data := #[] }, 1, []⟩, putD (delD l p) p v 1) := by simp [crD, h4, h5]
        rw [e3, app4 hv]
        have h6 : fndD (putD (delD l p) p v 1) p = some (v, 1) := by rw [fndD_put (h.rise.del p) (h.keys.del p) ho, if_pos rfl]
        have e4 : gtD (putD (delD l p) p v 1) p = (⟨0, v, 1, []⟩, putD (delD l p) p v 1) := by simp [gtD, thrD_no hr, h6]
        simp only [e4]
        simp [bad]
end Go.Proofs.Ytoojfbeikohikaa
