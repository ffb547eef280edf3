/-
  The walk of package frame's Take.
-/
import Derived.Test.YtfobdkhmffphmaaFrm2
import Derived.Deep.RegionHeld3
namespace Go.Proofs.Ytfobdkhmffphmaa
open Go.RowKit
set_option linter.unusedSimpArgs false
set_option linter.unusedVariables false

/-- The number that four bytes tell. -/
def dec4 (l : List Int) : Nat := (l.getD 0 0).toNat + 256 * (l.getD 1 0).toNat + 65536 * (l.getD 2 0).toNat + 16777216 * (l.getD 3 0).toNat
theorem dec4_lt {l : List Int} (h : ∀ x ∈ l, 0 ≤ x ∧ x ≤ 255) : dec4 l < 4294967296 := by
  have h0 := getD_range h 0
  have h1 := getD_range h 1
  have h2 := getD_range h 2
  have h3 := getD_range h 3
  unfold dec4
  omega
/-- What Take answers, of bytes that tell a length and a sum: the body, how long its frame is, what is wrong. -/
def tkG (b : List Int) (D C : Nat) : List Int × Int × Int :=
  if b.length < 8 then ([], 0, 10)
  else if (16777215 : Int) < (D : Int) then ([], 0, 13)
  else if b.length < 8 + D then ([], 0, 10)
  else if sumN 0 ((b.take (8 + D)).drop 8) ≠ C then ([], 0, 12)
  else ((b.take (8 + D)).drop 8, ((8 + D : Nat) : Int), 0)
def tkN (b : List Int) : List Int × Int × Int := tkG b (dec4 b) (dec4 (b.drop 4))
def TakeP (r : List Int × Int × Int) (w : World) (e : Ending) (w' : World) : Prop := ∃ v', Hid (e = .returned (.tuple #[v', .int .i64 r.2.1, .int .i64 r.2.2])) ∧ Own8 w' w.heap.size v' r.1 ∧ Below w.heap.size w w'
set_option maxHeartbeats 1600000 in
theorem take_short (v : Value) (b : List Int) (w : World) (hb : Bt w v b) (hl : b.length < 8) : Calls Try.prog 32 #[v] w (TakeP (tkN b) w) := by
  have ht : tkN b = ([], 0, 10) := by unfold tkN tkG; rw [if_pos hl]
  rw [ht]
  obtain ⟨a, cap, rfl, h1, h2⟩ := hb.row
  have t1 : (b.length : Int) < 8 := by omega
  clear hb h1 h2 ht
  go_enter Try.func32, Try.ntmps32
  go_wp2
  go_ret3
  exact ⟨_, rfl, Own8.nil _ _, Below.refl _ _⟩
theorem told_of (w : World) (l : List Int) (a b c d : Int) (h : ∀ x ∈ l, 0 ≤ x ∧ x ≤ 255) (h0 : l.getD 0 0 = a) (h1 : l.getD 1 0 = b) (h2 : l.getD 2 0 = c) (h3 : l.getD 3 0 = d) : Calls Try.prog 36 #[.agg #[.int .u8 a, .int .u8 b, .int .u8 c, .int .u8 d]] w fun e w' => e = .returned (.int .u32 (dec4 l)) ∧ Below w.heap.size w w' := by
  have r0 := getD_range h 0
  have r1 := getD_range h 1
  have r2 := getD_range h 2
  have r3 := getD_range h 3
  unfold dec4
  rw [h0] at r0 ⊢
  rw [h1] at r1 ⊢
  rw [h2] at r2 ⊢
  rw [h3] at r3 ⊢
  obtain ⟨a, rfl⟩ := Int.eq_ofNat_of_zero_le r0.1
  obtain ⟨b, rfl⟩ := Int.eq_ofNat_of_zero_le r1.1
  obtain ⟨c, rfl⟩ := Int.eq_ofNat_of_zero_le r2.1
  obtain ⟨d, rfl⟩ := Int.eq_ofNat_of_zero_le r3.1
  simp only [Int.toNat_natCast]
  exact told_any a b c d w (by omega) (by omega) (by omega) (by omega)
/-- The first eight bytes. -/
def C8 (g off : Nat) (n0 n1 n2 n3 n4 n5 n6 n7 : Int) (w' : World) : Prop :=
  w'.cell? ⟨g, off, none⟩ = some (.int .u8 n0) ∧ w'.cell? ⟨g, off + 1, none⟩ = some (.int .u8 n1) ∧ w'.cell? ⟨g, off + 2, none⟩ = some (.int .u8 n2) ∧ w'.cell? ⟨g, off + 3, none⟩ = some (.int .u8 n3) ∧
  w'.cell? ⟨g, off + 4, none⟩ = some (.int .u8 n4) ∧ w'.cell? ⟨g, off + 4 + 1, none⟩ = some (.int .u8 n5) ∧ w'.cell? ⟨g, off + 4 + 2, none⟩ = some (.int .u8 n6) ∧ w'.cell? ⟨g, off + 4 + 3, none⟩ = some (.int .u8 n7)
def K8 (w : World) (g off : Nat) (n0 n1 n2 n3 n4 n5 n6 n7 : Int) (w' : World) : Prop := C8 g off n0 n1 n2 n3 n4 n5 n6 n7 w ∧ g < w.heap.size ∧ Below w.heap.size w w'
theorem K8.below {w w1 w2 : World} {g off : Nat} {n0 n1 n2 n3 n4 n5 n6 n7 : Int} (h : K8 w g off n0 n1 n2 n3 n4 n5 n6 n7 w1) (hb : Below w1.heap.size w1 w2) : K8 w g off n0 n1 n2 n3 n4 n5 n6 n7 w2 := ⟨h.1, h.2.1, below_self h.2.2 hb⟩
theorem K8.drew {w w1 : World} {g off : Nat} {n0 n1 n2 n3 n4 n5 n6 n7 : Int} (h : K8 w g off n0 n1 n2 n3 n4 n5 n6 n7 w1) : K8 w g off n0 n1 n2 n3 n4 n5 n6 n7 w1.drew := h.below (Below.refl _ _).drew
theorem K8.parts {w w1 : World} {g off : Nat} {n0 n1 n2 n3 n4 n5 n6 n7 : Int} (h : K8 w g off n0 n1 n2 n3 n4 n5 n6 n7 w1) : (w1.cell? ⟨g, off, none⟩ = some (.int .u8 n0) ∧ w1.cell? ⟨g, off + 1, none⟩ = some (.int .u8 n1) ∧ w1.cell? ⟨g, off + 2, none⟩ = some (.int .u8 n2) ∧ w1.cell? ⟨g, off + 3, none⟩ = some (.int .u8 n3) ∧
  w1.cell? ⟨g, off + 4, none⟩ = some (.int .u8 n4) ∧ w1.cell? ⟨g, off + 4 + 1, none⟩ = some (.int .u8 n5) ∧ w1.cell? ⟨g, off + 4 + 2, none⟩ = some (.int .u8 n6) ∧ w1.cell? ⟨g, off + 4 + 3, none⟩ = some (.int .u8 n7)) ∧ K8 w g off n0 n1 n2 n3 n4 n5 n6 n7 w1 := by
  have e := h
  obtain ⟨⟨a0, a1, a2, a3, a4, a5, a6, a7⟩, hg, hb⟩ := h
  exact ⟨⟨(hb.cell (p := ⟨g, off, none⟩) hg).trans a0, (hb.cell (p := ⟨g, off + 1, none⟩) hg).trans a1, (hb.cell (p := ⟨g, off + 2, none⟩) hg).trans a2, (hb.cell (p := ⟨g, off + 3, none⟩) hg).trans a3, (hb.cell (p := ⟨g, off + 4, none⟩) hg).trans a4, (hb.cell (p := ⟨g, off + 4 + 1, none⟩) hg).trans a5, (hb.cell (p := ⟨g, off + 4 + 2, none⟩) hg).trans a6, (hb.cell (p := ⟨g, off + 4 + 3, none⟩) hg).trans a7⟩, e⟩
set_option maxRecDepth 100000 in
set_option maxHeartbeats 4000000 in
theorem take_any (v : Value) (b : List Int) (w : World) (hb : Bt w v b) (hx : ∀ x ∈ b, 0 ≤ x ∧ x ≤ 255) (hl : b.length ≤ 1000000000) : Calls Try.prog 32 #[v] w (TakeP (tkN b) w) := by
  by_cases h8 : b.length < 8
  · exact take_short v b w hb h8
  have HBT := Lib.hid hb
  obtain ⟨a, cap, rfl, h1, h2⟩ := hb.row
  obtain ⟨g, off, rfl, hg, hcells⟩ : ∃ g off, a = some ⟨g, off, none⟩ ∧ g < w.heap.size ∧ ∀ i, i < b.length → w.cell? ⟨g, off + i, none⟩ = some (.int .u8 (b.getD i 0)) := by
    rcases h1.2 with h0 | h0
    · subst h0; simp at h8
    · exact h0
  have HX := Lib.hid hx
  have HXD : Hid (∀ x ∈ b.drop 4, 0 ≤ x ∧ x ≤ 255) := fun x q => hx x (List.mem_of_mem_drop q)
  obtain ⟨n0, e0⟩ : ∃ n, b.getD 0 0 = n := ⟨_, rfl⟩
  obtain ⟨n1, e1⟩ : ∃ n, b.getD 1 0 = n := ⟨_, rfl⟩
  obtain ⟨n2, e2⟩ : ∃ n, b.getD 2 0 = n := ⟨_, rfl⟩
  obtain ⟨n3, e3⟩ : ∃ n, b.getD 3 0 = n := ⟨_, rfl⟩
  obtain ⟨n4, e4⟩ : ∃ n, b.getD 4 0 = n := ⟨_, rfl⟩
  obtain ⟨n5, e5⟩ : ∃ n, b.getD 5 0 = n := ⟨_, rfl⟩
  obtain ⟨n6, e6⟩ : ∃ n, b.getD 6 0 = n := ⟨_, rfl⟩
  obtain ⟨n7, e7⟩ : ∃ n, b.getD 7 0 = n := ⟨_, rfl⟩
  have gd : ∀ i, (b.drop 4).getD i 0 = b.getD (4 + i) 0 := fun i => by simp [List.getD]
  have T1 := fun w => Lib.hid (told_of w b n0 n1 n2 n3 hx e0 e1 e2 e3)
  have T2 := fun w => Lib.hid (told_of w (b.drop 4) n4 n5 n6 n7 HXD.out (by rw [gd]; exact e4) (by rw [gd]; exact e5) (by rw [gd]; exact e6) (by rw [gd]; exact e7))
  have HK : Hid (K8 w g off n0 n1 n2 n3 n4 n5 n6 n7 w) := by
    refine ⟨⟨?_, ?_, ?_, ?_, ?_, ?_, ?_, ?_⟩, hg, Below.refl _ _⟩
    · rw [← e0]; exact hcells 0 (by omega)
    · rw [← e1]; exact hcells 1 (by omega)
    · rw [← e2]; exact hcells 2 (by omega)
    · rw [← e3]; exact hcells 3 (by omega)
    · rw [← e4]; exact hcells 4 (by omega)
    · rw [← e5]; exact hcells 5 (by omega)
    · rw [← e6]; exact hcells 6 (by omega)
    · rw [← e7]; exact hcells 7 (by omega)
  have t1 : ¬ (b.length : Int) < 8 := by omega
  have t2 : ¬ cap = 4 := by have := h2.2.1; omega
  have t3 : (4 : Int) ≤ b.length := by omega
  have ha := fun w => run_arrayAt (P := Try.prog) (w := w) 61 5 4 (some ⟨g, off, none⟩) b.length cap Try.underlying61 (by omega)
  have ha2 := fun w => run_arrayAt (P := Try.prog) (w := w) 61 5 4 (some ⟨g, off + 4, none⟩) (b.length - 4) (cap - 4) Try.underlying61 (by omega)
  have D1 := dec4_lt hx
  have D2 := dec4_lt HXD.out
  have ht : ∃ r, tkN b = r := ⟨_, rfl⟩
  obtain ⟨r, hr⟩ := ht
  rw [hr]
  unfold tkN tkG at hr
  rw [if_neg h8] at hr
  generalize dec4 b = D at T1 D1 hr
  generalize dec4 (b.drop 4) = C at T2 D2 hr
  have DI : (D : Int) < 4294967296 := by omega
  have CI : (C : Int) < 4294967296 := by omega
  have HT := Lib.hid hr
  clear hr D1 D2
  clear hcells e0 e1 e2 e3 e4 e5 e6 e7 gd hx hb h1 h2
  go_enter Try.func32, Try.ntmps32
  go_wp2
  go_region_held3 (fun w1 => (w1.cell? ⟨g, off, none⟩ = some (.int .u8 n0) ∧ w1.cell? ⟨g, off + 1, none⟩ = some (.int .u8 n1) ∧ w1.cell? ⟨g, off + 2, none⟩ = some (.int .u8 n2) ∧ w1.cell? ⟨g, off + 3, none⟩ = some (.int .u8 n3) ∧
      w1.cell? ⟨g, off + 4, none⟩ = some (.int .u8 n4) ∧ w1.cell? ⟨g, off + 4 + 1, none⟩ = some (.int .u8 n5) ∧ w1.cell? ⟨g, off + 4 + 2, none⟩ = some (.int .u8 n6) ∧ w1.cell? ⟨g, off + 4 + 3, none⟩ = some (.int .u8 n7)) ∧ K8 w g off n0 n1 n2 n3 n4 n5 n6 n7 w1)
    (first | exact HK.out.parts | exact HK.out.drew.parts | (go_split_ands; first | exact K8.parts (K8.below (by assumption) (by assumption)) | exact K8.parts (K8.drew (by assumption)) | exact K8.parts (by assumption)))
    (first
      | (go_at_call_of 36 (Value.agg #[Value.int IntKind.u8 n0, Value.int IntKind.u8 n1, Value.int IntKind.u8 n2, Value.int IntKind.u8 n3]); refine (T1 _).out.mono ?_; rintro e w1 ⟨rfl, hb1⟩)
      | (go_at_call 36; refine (T2 _).out.mono ?_; rintro e w2 ⟨rfl, hb2⟩))
  all_goals
    go_split_ands
    have HB2 : Hid (Below w.heap.size w w2) := (by assumption : K8 w g off n0 n1 n2 n3 n4 n5 n6 n7 w2).2.2
    clear ha ha2 T1 T2
    by_cases c1 : (16777215 : Int) < D
    · have E := HT.out
      rw [if_pos c1] at E
      have E2 := Lib.hid E
      clear E HT
      go_wp2
      go_ret3
      rw [← E2.out]
      exact ⟨_, rfl, Own8.nil _ _, HB2.out⟩
    by_cases c2 : b.length < 8 + D
    · have E := HT.out
      rw [if_neg c1, if_pos c2] at E
      have E2 := Lib.hid E
      have c2i : (b.length : Int) < 8 + D := by omega
      have dI : (D : Int) ≤ 16777215 := by omega
      clear E HT
      go_wp2
      go_ret3
      rw [← E2.out]
      exact ⟨_, rfl, Own8.nil _ _, HB2.out⟩
    have c2i : ¬ (b.length : Int) < 8 + D := by omega
    have dI : (D : Int) ≤ 16777215 := by omega
    have HBw : Hid (Bt w2 (.slice (some ⟨g, off, none⟩) b.length cap) b) := HBT.out.below HB2.out
    have HXs : Hid (∀ x ∈ (b.take (8 + D)).drop 8, 0 ≤ x ∧ x ≤ 255) := fun x q => HX.out x (List.mem_of_mem_take (List.mem_of_mem_drop q))
    have hls : ((b.take (8 + D)).drop 8).length = D := by simp; omega
    have HLS := Lib.hid hls
    clear hls
    by_cases c3 : sumN 0 ((b.take (8 + D)).drop 8) = C
    · have E := HT.out
      rw [if_neg c1, if_neg c2, if_neg (by simpa using c3)] at E
      have E2 := Lib.hid E
      have C3 := Lib.hid c3
      clear E HT c3
      go_wp2_with (refine wpList_cut (o := ⟨some 31, _, _, _, _, _⟩) rfl _ _ _ rfl _ b rfl HBw.out 8 (8 + D) _ _ rfl rfl rfl (by omega) (by omega) (by omega) ?_)
      intro v3 hv3
      have HV3 := Lib.hid hv3
      clear hv3
      go_wp2_with fail
      refine (sumof_any _ _ _ HV3.out HXs.out).mono ?_
      rw [C3.out]
      rintro e w3 ⟨rfl, hb3⟩
      have HB3 : Hid (Below w.heap.size w w3) := below_self HB2.out hb3
      have HBx : Hid (Bt w3 (.slice (some ⟨g, off, none⟩) b.length cap) b) := HBw.out.below hb3
      have hz3 := HB3.out.size
      clear hb3 HV3 HBw HB2
      go_wp2_with (refine wpList_cut (o := ⟨some 37, _, _, _, _, _⟩) rfl _ _ _ rfl _ b rfl HBx.out 8 (8 + D) _ _ rfl rfl rfl (by omega) (by omega) (by omega) ?_)
      intro v4 hv4
      have HV4 := Lib.hid hv4
      clear hv4
      go_wp2_with (refine wpList_app (o := ⟨some 38, _, _, _, _, _⟩) rfl _ _ rfl w.heap.size _ [] rfl (Own8.nil _ _) _ _ rfl HV4.out (by rw [HLS.out]; simp; omega) hz3 ?_)
      intro v5 w5 ho5 hb5 hz5
      have HB5 : Hid (Below w.heap.size w w5) := HB3.out.trans hb5
      have HO5 := Lib.hid ho5
      clear ho5 hb5 HV4 HBx HB3
      go_wp2
      go_ret3
      rw [← E2.out]
      refine ⟨v5, ?_, HO5.out, HB5.out⟩
      unfold Hid
      simp
    · have E := HT.out
      rw [if_neg c1, if_neg c2, if_pos c3] at E
      have E2 := Lib.hid E
      have c3i : ((sumN 0 ((b.take (8 + D)).drop 8) : Int) == (C : Int)) = false := by simp; omega
      have c3j : ((sumN 0 ((b.take (8 + D)).drop 8) : Int) != (C : Int)) = true := by simp; omega
      clear E HT c3
      go_wp2_with (refine wpList_cut (o := ⟨some 31, _, _, _, _, _⟩) rfl _ _ _ rfl _ b rfl HBw.out 8 (8 + D) _ _ rfl rfl rfl (by omega) (by omega) (by omega) ?_)
      intro v3 hv3
      have HV3 := Lib.hid hv3
      clear hv3
      go_wp2_with fail
      refine (sumof_any _ _ _ HV3.out HXs.out).mono ?_
      rintro e w3 ⟨rfl, hb3⟩
      have HB3 : Hid (Below w.heap.size w w3) := below_self HB2.out hb3
      clear hb3 HV3 HBw HB2
      go_wp2
      go_ret3
      rw [← E2.out]
      exact ⟨_, rfl, Own8.nil _ _, HB3.out⟩
end Go.Proofs.Ytfobdkhmffphmaa
