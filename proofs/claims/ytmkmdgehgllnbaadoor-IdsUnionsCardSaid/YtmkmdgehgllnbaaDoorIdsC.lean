/-
  Instances as texts: the walks of ids' Show, and of the document's Digits and Show.
-/
import Derived.Test.YtmkmdgehgllnbaaDoorIdsB
import Derived.Shelf.Strconv.Itoa4
import Derived.Shelf.LaySoft
import Derived.Ground.NamesProg
namespace Go.Proofs.YtmkmdgehgllnbaaDoor
open Go.RowKit Go.Sort Go.Shelf Go.Lib
set_option linter.unusedSimpArgs false
set_option linter.unusedVariables false

shelf_lay LaysM.n171 Nm 171 at Tryd as Tryd.itoaM
/-- A number as a text. -/
def dd (m : Nat) : ByteArray := ⟨(Lib.decDigits m).toArray⟩
def its (n : Int) : ByteArray := ⟨(Lib.itoa n).toArray⟩
theorem txt_append (a b : List Int) : txt (a ++ b) = txt a ++ txt b := by
  unfold txt
  apply ByteArray.ext
  simp
theorem byte_of (m : Nat) (h : m < 200) : UInt8.ofNat (48 + (m : Int)).toNat = UInt8.ofNat (48 + m) := by
  congr 1
theorem dd_small {m : Nat} (h : m < 10) : dd m = txt [48 + (m : Int)] := by
  unfold dd txt
  rw [Lib.decDigits, dif_pos h]
  simp only [List.map_cons, List.map_nil]
  rw [byte_of m (by omega)]
theorem dd_big {m : Nat} (h : ¬ m < 10) : dd m = dd (m / 10) ++ txt [48 + ((m % 10 : Nat) : Int)] := by
  unfold dd txt
  rw [Lib.decDigits, dif_neg h]
  apply ByteArray.ext
  simp only [List.map_cons, List.map_nil]
  rw [byte_of (m % 10) (by omega)]
  simp
theorem dig_len : ∀ (k u : Nat), u < 10 ^ (k + 1) → (Lib.decDigits u).length ≤ k + 1
  | 0, u, h => by rw [Lib.decDigits, dif_pos (by simpa using h)]; simp
  | k + 1, u, h => by
    rw [Lib.decDigits]
    split
    · simp
    · have := dig_len k (u / 10) (by rw [Nat.pow_succ] at h; omega)
      simp
      omega
theorem dd_size (u : Nat) (h : u ≤ 9223372036854775808) : (dd u).size ≤ 20 := by
  have := dig_len 19 u (by omega)
  simpa [dd, ByteArray.size] using this
theorem its_pos {n : Int} (h : 0 ≤ n) : its n = dd n.toNat := by unfold its dd Lib.itoa; rw [if_neg (by omega)]
theorem its_neg {n : Int} (h : n < 0) : its n = txt [45] ++ dd (-n).toNat := by
  unfold its dd Lib.itoa txt
  rw [if_pos h]
  apply ByteArray.ext
  have : (-n).toNat = n.natAbs := by omega
  rw [this]
  simp
theorem its_size (n : Int) (h0 : -9223372036854775808 ≤ n) (h1 : n ≤ 9223372036854775807) : (its n).size ≤ 21 := by
  by_cases h : 0 ≤ n
  · rw [its_pos h]; have := dd_size n.toNat (by omega); omega
  · rw [its_neg (by omega)]
    have := dd_size (-n).toNat (by omega)
    rw [ByteArray.size_append, txt_size]
    simp; omega
theorem text_byte (w : World) (x : Int) (fr : Nat × Nat) : (convert 43 9 (.slice (some ⟨w.heap.size, 0, none⟩) 1 1)).run Tryd.prog (w.alloc (.cells #[.int .u8 x] 5 fr)) = .ok (.string (txt [x])) (w.alloc (.cells #[.int .u8 x] 5 fr)) := by
  obtain ⟨a, cap, e, h1, h2⟩ := (bt_lit w [x] 5 fr (by simp)).row
  cases e
  exact run_text (xs := [x]) h1 h2 Tryd.underlying43 Tryd.underlying5 Tryd.underlying9
/-- How far the digits are. -/
def DigI (u m : Nat) (s : ByteArray) : Prop := (s = ByteArray.empty ∧ m = u) ∨ (0 < s.size ∧ s.size ≤ 20 ∧ (if m = 0 then s = dd u else dd m ++ s = dd u))
theorem DigI.step {u m : Nat} {s : ByteArray} (hu : u ≤ 9223372036854775808) (h : DigI u m s) (hm : s = ByteArray.empty ∨ m ≠ 0) : DigI u (m / 10) (txt [48 + ((m % 10 : Nat) : Int)] ++ s) := by
  have key : dd m ++ s = dd u := by
    rcases h with ⟨rfl, rfl⟩ | ⟨_, _, h⟩
    · simp
    · rcases hm with rfl | hm
      · simp at *
      · rwa [if_neg hm] at h
  have hsz := congrArg ByteArray.size key
  rw [ByteArray.size_append] at hsz
  have hb := dd_size u hu
  refine .inr ⟨by rw [ByteArray.size_append, txt_size]; simp; omega, ?_, ?_⟩
  · rw [ByteArray.size_append, txt_size]
    have : 1 ≤ (dd m).size := by
      by_cases q : m < 10
      · rw [dd_small q, txt_size]; simp
      · rw [dd_big q, ByteArray.size_append, txt_size]; simp
    simp only [List.length_cons, List.length_nil]
    omega
  · by_cases q : m < 10
    · rw [if_pos (by omega), ← key, dd_small q, Nat.mod_eq_of_lt q]
    · rw [if_neg (by omega), ← ByteArray.append_assoc, ← dd_big q, key]
theorem DigI.done {u : Nat} {s : ByteArray} (h : DigI u 0 s) (hs : s ≠ ByteArray.empty) : s = dd u := by
  rcases h with ⟨rfl, _⟩ | ⟨_, _, h⟩
  · exact absurd rfl hs
  · simpa using h
end Go.Proofs.YtmkmdgehgllnbaaDoor
