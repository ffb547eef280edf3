/-
  The document's own directory: where a path is, and whether it is there.
-/
import Derived.Test.YtodcmhmankmaoaaGreatJ6
namespace Go.Proofs.YtodcmhmankmaoaaGreat
open Go.RowKit
set_option linter.unusedSimpArgs false
set_option linter.unusedVariables false

/-- Where a path is; -1: it is not there. -/
def fixI (l : List E3) (p : ByteArray) : Int := match l.findIdx? fun e => decide (e.1 = p) with
  | some k => (k : Int)
  | none => -1
theorem fixI_at {l : List E3} {p : ByteArray} {k : Nat} (hk : k < l.length) (h : (l.getD k EK.d).1 = p) (hb : ∀ j, j < k → (l.getD j EK.d).1 ≠ p) : fixI l p = (k : Int) := by
  have e : l.findIdx? (fun e => decide (e.1 = p)) = some k := by
    rw [List.findIdx?_eq_some_iff_getElem]
    refine ⟨hk, ?_, fun j hj => ?_⟩
    · have : l.getD k EK.d = l[k] := by rw [List.getD, List.getElem?_eq_getElem hk]; rfl
      rw [this] at h
      simpa using h
    · have hjl : j < l.length := by omega
      have h1 := hb j hj
      have : l.getD j EK.d = l[j] := by rw [List.getD, List.getElem?_eq_getElem hjl]; rfl
      rw [this] at h1
      simpa using h1
  unfold fixI
  rw [e]
theorem fixI_no {l : List E3} {p : ByteArray} (hb : ∀ j, j < l.length → (l.getD j EK.d).1 ≠ p) : fixI l p = -1 := by
  have e : l.findIdx? (fun e => decide (e.1 = p)) = none := by
    rw [List.findIdx?_eq_none_iff]
    intro x hx
    obtain ⟨j, hj, rfl⟩ := List.getElem_of_mem hx
    have h1 := hb j hj
    have : l.getD j EK.d = l[j] := by rw [List.getD, List.getElem?_eq_getElem hj]; rfl
    rw [this] at h1
    simpa using h1
  unfold fixI
  rw [e]
theorem fixI_fnd (l : List E3) (p : ByteArray) : decide (fixI l p ≥ 0) = (fndD l p).isSome := by
  unfold fixI fndD
  cases h : l.findIdx? (fun e => decide (e.1 = p)) with
  | none =>
    rw [List.findIdx?_eq_none_iff] at h
    have : l.find? (fun e => decide (e.1 = p)) = none := List.find?_eq_none.2 (fun x hx => by simpa using h x hx)
    rw [this]
    simp
  | some k =>
    obtain ⟨hk, h1, _⟩ := List.findIdx?_eq_some_iff_getElem.1 h
    cases g : l.find? (fun e => decide (e.1 = p)) with
    | none => exact absurd h1 (List.find?_eq_none.1 g _ (List.getElem_mem hk))
    | some x => simp
set_option maxRecDepth 100000 in
set_option maxHeartbeats 1000000 in
theorem rfind_any (r : Nat) (a : Option Addr) (n c : Nat) (l : List E3) (p : ByteArray) (w : World) (hc : w.cell? ⟨r, 0, none⟩ = some (.slice a n c)) (hR : EK.Rd w (.slice a n c) l) (hln : n = l.length) (hn : n ≤ 10000) :
    Calls Tryz.prog 34 #[.pointer (some ⟨r, 0, none⟩), .string p] w fun e w' => e = .returned (.int .i64 (fixI l p)) ∧ w = w' := by
  have HR := Lib.hid hR
  have HLN := Lib.hid hln
  have hni : (n : Int) ≤ 10000 := by omega
  clear hR hln
  go_enter Tryz.func34, Tryz.ntmps34
  go_wp2_with fail
  go_loopw [5] (fun i wr => ∃ k : Nat, k ≤ n ∧ i = .int .i64 k ∧ Hid (∀ j, j < k → (l.getD j EK.d).1 ≠ p) ∧ w = wr) (fun i _ => n - (intOf i).toNat)
  case atStart => exact ⟨0, Nat.zero_le _, rfl, Lib.hid (fun j hj => by omega), rfl⟩
  case round =>
    obtain ⟨k, hk, rfl, hF, rfl⟩ := hrel
    by_cases hlt : k < n
    · have hlt' : (k : Int) < (n : Int) := by omega
      obtain ⟨e00, ge, offe, ha, hge, u0, u1, u2, hkl⟩ := entCell HR.out k hlt
      clear e00 u1 u2
      obtain ⟨⟨ep, ev, en⟩, hE⟩ : ∃ E, l.getD k EK.d = E := ⟨_, rfl⟩
      rw [hE] at u0
      simp only at u0
      have HE := Lib.hid hE
      have HKL := Lib.hid hkl
      subst ha
      clear hE hkl hge
      by_cases hpe : ep = p
      · have z0 : (ep.toList == p.toList) = true := by rw [hpe]; simp
        have HV : Hid (fixI l p = (k : Int)) := Lib.hid (fixI_at HKL.out (by rw [HE.out]; exact hpe) hF.out)
        clear hpe
        go_wp2
        go_ret
        exact ⟨(by rw [HV.out]; first | done | rfl), rfl⟩
      · have z0 : (ep.toList == p.toList) = false := by
          rw [Lib.toList_data, Lib.toList_data]
          simpa using fun e => hpe (data_inj (by simpa using e))
        have HF2 : Hid (∀ j, j < k + 1 → (l.getD j EK.d).1 ≠ p) := Lib.hid (fun j hj => by
          by_cases e : j = k
          · subst e; rw [HE.out]; exact hpe
          · exact hF.out j (by omega))
        clear hpe hF HE HKL
        go_wp2
        go_roundw
        case rel => exact ⟨k + 1, by omega, by go_num, HF2, trivial⟩
        case measure => simp [intOf]; omega
    · obtain rfl : n = k := by omega
      have hlt' : ¬ (n : Int) < (n : Int) := by omega
      have HV : Hid (fixI l p = -1) := Lib.hid (fixI_no (fun j hj => hF.out j (by have := HLN.out; omega)))
      clear hlt hF
      go_wp2
      go_ret
      exact ⟨(by rw [HV.out]; first | done | rfl), rfl⟩
set_option maxRecDepth 100000 in
set_option maxHeartbeats 1000000 in
theorem rthere_any (r : Nat) (a : Option Addr) (n c : Nat) (l : List E3) (p : ByteArray) (w : World) (hc : w.cell? ⟨r, 0, none⟩ = some (.slice a n c)) (hR : EK.Rd w (.slice a n c) l) (hln : n = l.length) (hn : n ≤ 10000) :
    Calls Tryz.prog 39 #[.pointer (some ⟨r, 0, none⟩), .string p] w fun e w' => e = .returned (.bool (thrD l p)) ∧ w = w' := by
  have HF := Lib.hid (rfind_any r a n c l p w hc hR hln hn)
  have hv : thrD l p = (decide (p = pth []) || decide (fixI l p ≥ 0)) := by rw [fixI_fnd, Bool.or_comm]; rfl
  obtain ⟨F, hFi⟩ : ∃ F, fixI l p = F := ⟨_, rfl⟩
  rw [hFi] at hv HF
  clear hFi
  have e0 : pth [] = { data := #[47] } := rfl
  by_cases hp : p = pth []
  · have hv2 : thrD l p = true := by rw [hv]; simp [hp]
    rw [hv2]
    rw [e0] at hp
    subst hp
    clear hv hv2 hR hln e0
    go_enter Tryz.func39, Tryz.ntmps39
    go_wp2
    go_ret
    exact ⟨rfl, rfl⟩
  · have z0 : ¬ p.toList = [47] := fun e => hp (by
      rw [Lib.toList_data] at e
      exact data_inj (by rw [e0, ← e]))
    have z1 : (p.toList == [47]) = false := by simpa using z0
    have hv2 : thrD l p = decide (0 ≤ F) := by rw [hv]; simp [hp]
    rw [hv2]
    clear hv hv2 hp hR hln e0
    go_enter Tryz.func39, Tryz.ntmps39
    go_wp2_with fail
    refine HF.out.mono ?_
    rintro e w1 ⟨rfl, rfl⟩
    go_wp2
    go_ret
    exact ⟨rfl, rfl⟩
end Go.Proofs.YtodcmhmankmaoaaGreat
