/-
  Graph: a group in its order.
-/
import Derived.Test.YtlckjpjcfalfnaaGi
import Derived.Sort.LotA
namespace Go.Proofs.Ytlckjpjcfalfnaa
open Go.RowKit Go.Sort Go.Shelf
open Go.WideMaps
set_option linter.unusedSimpArgs false
set_option linter.unusedVariables false
set_option maxRecDepth 100000

section
variable {α : Type} [Inhabited α] (lt lt2 : α → α → Bool) (R : α → α → Prop)
theorem insInner_keep (a : Nat) : ∀ (j : Nat) (d : Array α), j < d.size → a ≤ j → (insInner lt a j d).size = d.size ∧ (∀ q, j < q → (insInner lt a j d)[q]! = d[q]!) ∧ (∀ p, p ≤ j → ∃ p', p' ≤ j ∧ (insInner lt a j d)[p]! = d[p']!)
  | 0, d, _, _ => ⟨rfl, fun _ _ => rfl, fun p hp => ⟨p, hp, rfl⟩⟩
  | j + 1, d, hj, ha => by
    unfold insInner
    split
    · rename_i hc
      simp only [Bool.and_eq_true, decide_eq_true_eq] at hc
      obtain ⟨h1, h2, h3⟩ := insInner_keep a j (swp d (j + 1) j) (by rw [swp_size]; omega) (by omega)
      refine ⟨by rw [h1, swp_size], fun q hq => ?_, fun p hp => ?_⟩
      · rw [h2 q (by omega), swp_other _ _ _ _ (by omega) (by omega)]
      · by_cases e : p = j + 1
        · subst e
          refine ⟨j, by omega, ?_⟩
          rw [h2 (j + 1) (by omega), swp_left _ _ _ hj (by omega)]
        · obtain ⟨p', hp', e2⟩ := h3 p (by omega)
          rw [e2]
          by_cases e3 : p' = j
          · subst e3
            exact ⟨p' + 1, by omega, swp_right _ _ _ (by omega)⟩
          · exact ⟨p', by omega, swp_other _ _ _ _ (by omega) e3⟩
    · exact ⟨rfl, fun _ _ => rfl, fun p hp => ⟨p, hp, rfl⟩⟩
theorem insInner_congr (hR : ∀ x y, R x y → lt y x = lt2 y x) (a : Nat) : ∀ (j : Nat) (d : Array α), j < d.size → (∀ p, p < j → R d[p]! d[j]!) → insInner lt a j d = insInner lt2 a j d
  | 0, d, _, _ => rfl
  | j + 1, d, hj, h => by
    unfold insInner
    rw [hR _ _ (h j (by omega))]
    split
    · refine insInner_congr hR a j _ (by rw [swp_size]; omega) fun p hp => ?_
      rw [swp_other _ _ _ _ (by omega) (by omega), swp_right _ _ _ (by omega)]
      exact h p (by omega)
    · rfl
theorem insOuter_congr (hR : ∀ x y, R x y → lt y x = lt2 y x) (b : Nat) : ∀ (n i : Nat) (d : Array α), b - i = n → b ≤ d.size → (∀ p q, p < i → i ≤ q → q < b → R d[p]! d[q]!) → (∀ p q, i ≤ p → p < q → q < b → R d[p]! d[q]!) → insOuter lt 0 b i d = insOuter lt2 0 b i d
  | 0, i, d, hn, _, _, _ => by
    rw [insOuter, if_neg (by omega)]
    rw [insOuter, if_neg (by omega)]
  | n + 1, i, d, hn, hb, h, k => by
    rw [insOuter, if_pos (by omega)]
    conv => rhs; rw [insOuter, if_pos (by omega)]
    rw [← insInner_congr lt lt2 R hR 0 i d (by omega) (fun p hp => h p i hp (Nat.le_refl _) (by omega))]
    obtain ⟨h1, h2, h3⟩ := insInner_keep lt 0 i d (by omega) (Nat.zero_le _)
    refine insOuter_congr hR b n (i + 1) _ (by omega) (by rw [h1]; exact hb) (fun p q hp hq hqb => ?_) (fun p q hp hq hqb => ?_)
    · obtain ⟨p', hp', e⟩ := h3 p (by omega)
      rw [e, h2 q (by omega)]
      by_cases e2 : p' = i
      · subst e2; exact k p' q (Nat.le_refl _) (by omega) hqb
      · exact h p' q (by omega) (by omega) hqb
    · rw [h2 p (by omega), h2 q (by omega)]
      exact k p q (by omega) hq hqb
/-- A stable sort of what rises by one order is the sort by both. -/
theorem insertion_stable (hR : ∀ x y, R x y → lt y x = lt2 y x) (hS : SWO lt2) (ht : ∀ x y, lt2 x y = false → lt2 y x = false → x = y) (d : Array α) (hd : d.toList.Pairwise R) : (Sort.insertionSort lt d 0 d.size).toList = d.toList.mergeSort (fun x y => !lt2 y x) := by
  have hp : ∀ p q, p < q → q < d.size → R d[p]! d[q]! := fun p q hpq hq => by
    rw [getElem!_pos d p (by omega), getElem!_pos d q hq]
    have := List.pairwise_iff_getElem.1 hd p q (by simpa using by omega) (by simpa using hq) hpq
    simpa using this
  have e : Sort.insertionSort lt d 0 d.size = Sort.insertionSort lt2 d 0 d.size := by
    unfold Sort.insertionSort
    exact insOuter_congr lt lt2 R hR d.size _ _ d rfl (Nat.le_refl _) (fun p q h1 h2 h3 => hp p q (by omega) h3) (fun p q h1 h2 h3 => hp p q h2 h3)
  rw [e]
  obtain ⟨h1, h2⟩ := insertionSort_holds hS d 0 d.size (Nat.zero_le _) (Nat.le_refl _)
  exact sorted_unique_holds hS ht d _ h1 h2
end
/-- By number, then by ID. -/
def ltG (web : List (I3 × NV)) (x y : I3) : Bool := decide (sqOf web x < sqOf web y) || (decide (sqOf web x = sqOf web y) && ltI x y)
theorem ltG_iff (web : List (I3 × NV)) (x y : I3) : ltG web x y = true ↔ sqOf web x < sqOf web y ∨ (sqOf web x = sqOf web y ∧ ltI x y = true) := by simp [ltG]
def sortL (web : List (I3 × NV)) (l : List I3) : List I3 := l.mergeSort fun x y => !ltG web y x
theorem ltG_swo (web : List (I3 × NV)) : SWO (ltG web) where
  irrefl x := by
    rw [Bool.eq_false_iff, ne_eq, ltG_iff]
    rintro (h | ⟨_, h⟩)
    · omega
    · rw [ltI_irrefl] at h; cases h
  trans x y z h k := by
    rw [ltG_iff] at *
    rcases h with h | ⟨h1, h2⟩ <;> rcases k with k | ⟨k1, k2⟩
    · exact .inl (by omega)
    · exact .inl (by omega)
    · exact .inl (by omega)
    · exact .inr ⟨by omega, ltI_trans h2 k2⟩
  ntrans x y z h k := by
    rw [Bool.eq_false_iff, ne_eq, ltG_iff] at *
    have q := ltI_swo.ntrans x y z
    simp only [ordI_lt] at q
    rintro (r | ⟨r1, r2⟩)
    · apply h
      by_cases e : sqOf web x < sqOf web y
      · exact .inl e
      · exact absurd (.inl (by omega)) k
    · by_cases e1 : sqOf web x < sqOf web y
      · exact h (.inl e1)
      · by_cases e2 : sqOf web y < sqOf web z
        · exact k (.inl e2)
        · have a1 : ltI x y = false := by
            cases q1 : ltI x y
            · rfl
            · exact absurd (.inr ⟨by omega, q1⟩) h
          have a2 : ltI y z = false := by
            cases q1 : ltI y z
            · rfl
            · exact absurd (.inr ⟨by omega, q1⟩) k
          rw [q a1 a2] at r2
          cases r2
theorem ltG_total (web : List (I3 × NV)) (x y : I3) (h : ltG web x y = false) (k : ltG web y x = false) : x = y := by
  rw [Bool.eq_false_iff, ne_eq, ltG_iff] at *
  have e : sqOf web x = sqOf web y := by
    by_cases e1 : sqOf web x < sqOf web y
    · exact absurd (.inl e1) h
    · by_cases e2 : sqOf web y < sqOf web x
      · exact absurd (.inl e2) k
      · omega
  refine ltI_total ?_ ?_
  · cases q : ltI x y
    · rfl
    · exact absurd (.inr ⟨e, q⟩) h
  · cases q : ltI y x
    · rfl
    · exact absurd (.inr ⟨e.symm, q⟩) k
/-- Instances that can be keys. -/
abbrev OI := {x : I3 // okI x}
noncomputable def IK4 (d : OI) : Knd Try.prog OI where
  T := 25
  S := 23
  k := 3
  enc := fun x => idE x.1
  z := .agg #[.int .i64 0, .int .i64 0, .int .i64 0]
  B := 24
  len := fun _ => rfl
  one := fun x v h => by simp [idE] at h; rcases h with rfl | rfl | rfl <;> rfl
  und := Try.underlying23
  info := by kernel_rfl
  zc := rfl
  pos := by omega
  small := by omega
  d := d
theorem own4 {d : OI} {w : World} {base : Nat} {v : Value} {k : List OI} : (IK4 d).Own w base v k ↔ IK.Own w base v (k.map (·.1)) := by
  have e : (IK4 d).row k = IK.row (k.map (·.1)) := by
    unfold Knd.row
    rw [List.flatMap_map]
    rfl
  unfold Knd.Own
  rw [e, List.length_map]
  exact Iff.rfl
theorem lift_ok : ∀ (l : List I3), okL l → ∃ k : List OI, k.map (·.1) = l
  | [], _ => ⟨[], rfl⟩
  | a :: es, h => by
    obtain ⟨k, hk⟩ := lift_ok es fun e he => h e (.tail _ he)
    exact ⟨⟨a, h a (.head _)⟩ :: k, by simp [hk]⟩
def cfG (web : List (I3 × NV)) (x y : OI) : Int := cmpZ (sqOf web x.1) (sqOf web y.1)
theorem cfG_lt (web : List (I3 × NV)) (x y : OI) : ltOf (cfG web) x y = decide (sqOf web x.1 < sqOf web y.1) := by
  unfold ltOf cfG cmpZ
  by_cases h : sqOf web x.1 < sqOf web y.1
  · simp [h]
  · rw [if_neg h, decide_eq_false h]
    by_cases k : sqOf web y.1 < sqOf web x.1 <;> simp [k]
theorem sortG_list [Inhabited OI] (web : List (I3 × NV)) (k : List OI) (hr : (k.map (·.1)).Pairwise fun x y => ltI x y = true) : ((Sort.insertionSort (ltOf (cfG web)) k.toArray 0 k.toArray.size).toList.map (·.1)) = sortL web (k.map (·.1)) := by
  rw [insertion_stable (ltOf (cfG web)) (fun x y : OI => ltG web x.1 y.1) (fun x y => ltI x.1 y.1 = true) (fun x y h => ?_) ⟨fun x => (ltG_swo web).irrefl _, fun x y z => (ltG_swo web).trans _ _ _, fun x y z => (ltG_swo web).ntrans _ _ _⟩ (fun x y h1 h2 => Subtype.ext (ltG_total web _ _ h1 h2)) k.toArray (by rw [List.pairwise_map] at hr; exact hr)]
  · unfold sortL
    exact List.map_mergeSort (fun a _ b _ => rfl)
  · rw [cfG_lt]
    unfold ltG
    rw [ltI_asymm h]
    simp
theorem args3 (a b c : Value) : (#[a, b] ++ #[c] : Array Value) = #[a, b, c] := by simp
set_option maxHeartbeats 1000000 in
theorem cmpG [Inhabited OI] {w : World} {m bw g b size : Nat} {web : List (I3 × NV)} {cs : List Value} (hp : Bk w g 83 [.pointer (some ⟨m + 3, 0, none⟩)]) (hf : Bk w (m + 3) 63 (.map (some bw) :: cs)) (hM : MV ndV w bw web) (h1 : g ≠ b) (h2 : m + 3 ≠ b) (h3 : bw ≠ b) :
    CmpLays Try.prog 62 #[.pointer (some ⟨g, 0, none⟩)] (fun x : OI => idE x.1) 3 (cfG web) b 0 size w := by
  intro mm os dk _ x y
  have hg : w.grownBy (sortWorldK (fun x : OI => idE x.1) 3 w b 0 mm dk os) (some b) := grownBy_sortedK _
  have q := lessG_any (hp.grown hg (by simpa using h1)) (hf.grown hg (by simpa using h2)) (hM.kept hg (by simpa using h3)) x.1.1 x.1.2.1 x.1.2.2 y.1.1 y.1.2.1 y.1.2.2 x.2 y.2
  generalize sortWorldK (fun x : OI => idE x.1) 3 w b 0 mm dk os = W at q ⊢
  rw [args3]
  exact q
set_option maxHeartbeats 2000000 in
theorem sortG_any {w : World} {m bw g base b n c : Nat} {web : List (I3 × NV)} {cs : List Value} {l : List I3} (hp : Bk w g 83 [.pointer (some ⟨m + 3, 0, none⟩)]) (hf : Bk w (m + 3) 63 (.map (some bw) :: cs)) (hM : MV ndV w bw web)
    (ho : IK.Own w base (.slice (some ⟨b, 0, none⟩) n c) l) (hk : okL l) (hr : l.Pairwise fun x y => ltI x y = true) (hl : l.length < 20) (h1 : g ≠ b) (h2 : m + 3 ≠ b) (h3 : bw ≠ b) :
    Calls Try.prog 61 #[.slice (some ⟨b, 0, none⟩) n c, .func (.func 62) #[] #[.pointer (some ⟨g, 0, none⟩)]] w fun e w' => e = .returned (.tuple #[]) ∧ IK.Own w' base (.slice (some ⟨b, 0, none⟩) n c) (sortL web l) ∧ w.grownBy w' (some b) := by
  have hn : n = l.length := (own_cap ho).2
  subst hn
  let inst : Inhabited OI := ⟨⟨(0, 0, 0), ⟨by rfl, by rfl, by rfl⟩⟩⟩
  obtain ⟨k4, hk4⟩ := lift_ok l hk
  subst hk4
  have ho4 : (IK4 inst.default).Own w base (.slice (some ⟨b, 0, none⟩) (k4.map (·.1)).length c) k4 := own4.2 ho
  obtain ⟨hH, hbl, _⟩ := ho4.holds
  have eg : ∀ args w, (callFunc 62 args).run Try.prog w = .ok (.enter 62 args) w := enters_of Try.func62 (by kernel_rfl) rfl
  have hcmp := cmpG (size := k4.toArray.size) hp hf hM h1 h2 h3

  have hst := (stable_any (fun x : OI => idE x.1) (fun _ => rfl) (fun x v h => (IK4 inst.default).one x v h) (cfG web) 62 #[.pointer (some ⟨g, 0, none⟩)] b 0 c k4.toArray w eg hcmp hH hbl (k4.map (·.1)).length (by simp) hl)
  refine hst.mono ?_
  rintro e w' ⟨he, nn, os, hw⟩
  refine ⟨he, ?_⟩
  obtain ⟨s4, hs4⟩ : ∃ q, (Sort.insertionSort (ltOf (cfG web)) k4.toArray 0 k4.toArray.size).toList = q := ⟨_, rfl⟩
  have hsl := sortG_list web k4 hr
  rw [hs4] at hsl
  have hlen : s4.length = k4.length := by
    have := congrArg List.length hsl
    unfold sortL at this
    simpa using this
  have hq := ho4.sorted hlen nn os
  have ea : Sort.insertionSort (ltOf (cfG web)) k4.toArray 0 k4.toArray.size = s4.toArray := by rw [← hs4]
  rw [hw, ea]
  refine ⟨?_, hq.2⟩
  have hq1 := own4.1 hq.1
  rw [hsl] at hq1
  exact hq1
end Go.Proofs.Ytlckjpjcfalfnaa
