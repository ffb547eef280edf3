/-
  The walks of package num's writer.
-/
import Derived.Test.YtllcmapgigfgoaaNum
import Derived.Laws.AppendOwnNone
namespace Go.Proofs.Ytllcmapgigfgoaa
open Go.RowKit
set_option linter.unusedSimpArgs false
set_option linter.unusedVariables false

theorem infoByte : (Try.prog.info? 5).map (fun i => (i.zero, i.size, i.bytes)) = some (some (.int .u8 0), 1, 1) := by kernel_rfl
/-- A writer that lies in block b: what it has written, and whether it is spoilt. -/
structure WrAt (w : World) (b : Nat) (xs : List Int) (sp : Bool) : Prop where
  spoil : w.cell? ⟨b, 1, none⟩ = some (.bool sp)
  free0 : w.frozen? ⟨b, 0, none⟩ = false
  free1 : w.frozen? ⟨b, 1, none⟩ = false
  size : b < w.heap.size
  row : ∃ v, w.cell? ⟨b, 0, none⟩ = some v ∧ w.ownsRow (b + 1) 5 1 v xs.length (u8v xs)
theorem new_any (w : World) : Calls Try.prog 50 #[] w fun e w' => e = .returned (.pointer (some ⟨w.heap.size, 0, none⟩)) ∧ w.heap.size + 1 = w'.heap.size ∧ WrAt w' w.heap.size [] false ∧ Below w.heap.size w w' := by
  go_enter Try.func50, Try.ntmps50
  go_wp2
  go_ret
  exact ⟨rfl, by simp, ⟨by simp [go_sem], by simp [go_sem], by simp [go_sem], by simp, _, by simp [go_sem], rfl, .inl ⟨rfl, rfl⟩⟩, (Below.refl _ _).alloc (Nat.le_refl _) _⟩

theorem or128 (m : Int) (h : 0 ≤ m) : bits BinOp.or IntKind.u8 (m % 256) 128 = m % 128 + 128 := by
  have key : ∀ x : Fin 256, bits BinOp.or IntKind.u8 (x.val : Int) 128 = (x.val : Int) % 128 + 128 := by decide +kernel
  have h2 : m % 256 = (((m % 256).toNat : Nat) : Int) := by omega
  have h3 : (m % 256).toNat < 256 := by omega
  have := key ⟨(m % 256).toNat, h3⟩
  simp only at this
  rw [h2, this]; omega
theorem owns_from8 {w : World} {base e size n : Nat} {v : Value} {xs : List Value} (h : w.ownsRow base e size v n xs) : ∀ k, v.ownBlock = some k → base ≤ k := by
  intro k hk
  rcases h.2 with ⟨rfl, _⟩ | ⟨g, cap, cur, rfl, hg, _⟩
  · cases hk
  · simp [Value.ownBlock] at hk; omega

set_option maxHeartbeats 1600000 in
theorem wnum_good (b : Nat) (n : Int) (xs : List Int) (w : World) (hW : WrAt w b xs false) (h0 : 0 ≤ n) (h1 : n ≤ 281474976710656) (hl : xs.length ≤ 1000000000) :
    Calls Try.prog 110 #[.pointer (some ⟨b, 0, none⟩), .int .i64 n] w fun e w' => e = .returned (.pointer (some ⟨b, 0, none⟩)) ∧ WrAt w' b (xs ++ enc n) false ∧ Below b w w' := by
  obtain ⟨i0, hi, hz0, hz1, hz2⟩ := info_parts infoByte
  have hsz := sizeN_range n
  have hpos : (sizeN n == 0) = false := by
    have := enc_length n h0 h1
    unfold sizeN; rw [if_pos ⟨h0, h1⟩]; have := remN_range (n / 128); simp; omega
  obtain ⟨c1, f0, f1, hsize, v0, c0, hown⟩ := hW
  go_enter Try.func110, Try.ntmps110
  go_wp2_with (go_at_call 112; refine (size_any _ _).mono ?_; rintro e w1 ⟨rfl, rfl⟩)
  go_loopw [1] (fun a wr => ∃ (m : Int) (ys : List Int), 0 ≤ m ∧ m ≤ 281474976710656 ∧ a = .int .i64 m ∧ Hid (ys ++ enc m = xs ++ enc n) ∧ Hid (WrAt wr b ys false) ∧ Hid (Below b w wr)) (fun a _ => (intOf a).toNat)
  case atStart => exact ⟨n, xs, h0, h1, rfl, rfl, ⟨c1, f0, f1, hsize, v0, c0, hown⟩, Below.refl _ _⟩
  case round =>
    clear c1 f0 f1 c0 hown
    obtain ⟨m, ys, hm0, hm1, rfl, hH, hWr, hBel⟩ := hrel
    have hy : ys.length ≤ 1000000008 := by
      have a1 := congrArg List.length hH.out
      have a2 := enc_length n h0 h1
      simp at a1
      omega
    obtain ⟨c1, f0, f1, hs, v, c0, hown⟩ := hWr.out
    by_cases hlt : 128 ≤ m
    · go_wp2_with (at_builtin; refine wpList_append_own _ rfl (.tmp 27) (.tmp 31) 49 rfl (b + 1) 5 i0 (.int .u8 0) 1 1 Try.underlying49 hi hz0 hz1 hz2 rfl (by decide) v ys.length (u8v ys) rfl (hown.alloc _) ⟨wr.heap.size, 0, none⟩ 1 1 [.int .u8 (bits BinOp.or IntKind.u8 (m % 256) 128)] rfl rfl ?m1 ?m2 ?m3 ?m4 ?m5 ?mx)
      case m1 => intro j u hj; match j, hj with | 0, hj => simp at hj; subst hj; simp [Addr.add]
      case m2 => intro u hu; simp at hu; subst hu; rfl
      case m3 => unfold maxLen; omega
      case m4 => omega
      case m5 => simp; omega
      case mx =>
        intro v2 w2 hown2 hgrow2 _
        have hb2 : Below (b + 1) wr w2 := (((Below.refl (b + 1) _).alloc (by omega) _).grown hgrow2 (by simp; omega) (owns_from8 hown))
        obtain ⟨g2, cap2, hv2, hg2⟩ : ∃ g cap, v2 = .slice (some ⟨g, 0, none⟩) (ys.length + 1) cap ∧ b + 1 ≤ g := by
          rcases hown2.2 with ⟨_, h⟩ | ⟨g, cap, cur, h, hgg, _⟩
          · omega
          · exact ⟨g, cap, h, hgg⟩
        rw [hv2] at hown2 ⊢
        clear hgrow2
        have k0 := (hb2.cell (p := ⟨b, 0, none⟩) (by simp)).trans c0
        have k1 := (hb2.cell (p := ⟨b, 1, none⟩) (by simp)).trans c1
        have e0 := (hb2.frozen (p := ⟨b, 0, none⟩) (by simp)).trans f0
        have e1 := (hb2.frozen (p := ⟨b, 1, none⟩) (by simp)).trans f1
        have HO := Lib.hid hown2
        clear hown2
        have hbs := Lib.hid (hb2.mono (Nat.le_succ b))
        have hz2' := hb2.size
        have HE := Lib.hid (enc_step m hlt (by omega))
        have HB := Lib.hid (or128 m hm0)
        go_wp2_with fail
        refine ⟨⟨m / 128, ys ++ [m % 128 + 128], by omega, by omega, rfl, ?_, ?_, ?_⟩, ?_⟩
        · show (ys ++ [m % 128 + 128]) ++ enc (m / 128) = xs ++ enc n
          rw [← hH.out, HE.out]; simp
        · refine ⟨by simp [go_sem, *], by simp [go_sem, *], by simp [go_sem, *], by simp; omega, _, by simp [go_sem, *]; rfl, ?_⟩
          have ho := HO.out
          rw [HB.out] at ho
          have hr := ownsRow_setCell_below ho (a := ⟨b, 0, none⟩) (by simp) (.slice (some ⟨g2, 0, none⟩) (ys.length + 1) cap2)
          simpa using hr
        · exact hBel.out.trans (hbs.out.trans ((Below.refl b _).setCell (p := ⟨b, 0, none⟩) (Nat.le_refl b) _))
        · simp [intOf]; omega
    · go_wp2_with (at_builtin; refine wpList_append_own _ rfl (.tmp 39) (.tmp 42) 49 rfl (b + 1) 5 i0 (.int .u8 0) 1 1 Try.underlying49 hi hz0 hz1 hz2 rfl (by decide) v ys.length (u8v ys) rfl (hown.alloc _) ⟨wr.heap.size, 0, none⟩ 1 1 [.int .u8 m] rfl rfl ?n1 ?n2 ?n3 ?n4 ?n5 ?nx)
      case n2 => rfl
      case n3 => unfold maxLen; omega
      case n4 => omega
      case n5 => omega
      case nx =>
        intro v2 w2 hown2 hgrow2 _
        have hb2 : Below (b + 1) wr w2 := (((Below.refl (b + 1) _).alloc (by omega) _).grown hgrow2 (by simp; omega) (owns_from8 hown))
        obtain ⟨g2, cap2, hv2, hg2⟩ : ∃ g cap, v2 = .slice (some ⟨g, 0, none⟩) (ys.length + 1) cap ∧ b + 1 ≤ g := by
          rcases hown2.2 with ⟨_, h⟩ | ⟨g, cap, cur, h, hgg, _⟩
          · omega
          · exact ⟨g, cap, h, hgg⟩
        rw [hv2] at hown2 ⊢
        clear hgrow2
        have k0 := (hb2.cell (p := ⟨b, 0, none⟩) (by simp)).trans c0
        have k1 := (hb2.cell (p := ⟨b, 1, none⟩) (by simp)).trans c1
        have e0 := (hb2.frozen (p := ⟨b, 0, none⟩) (by simp)).trans f0
        have e1 := (hb2.frozen (p := ⟨b, 1, none⟩) (by simp)).trans f1
        have HO := Lib.hid hown2
        clear hown2
        have hbs := Lib.hid (hb2.mono (Nat.le_succ b))
        have hz2' := hb2.size
        have HE := Lib.hid (enc_small m (by omega))
        go_wp2_with fail
        go_ret
        refine ⟨rfl, ⟨by simp [go_sem, *], by simp [go_sem, *], by simp [go_sem, *], by simp; omega, _, by simp [go_sem, *]; rfl, ?_⟩, hBel.out.trans (hbs.out.trans ((Below.refl b _).setCell (p := ⟨b, 0, none⟩) (Nat.le_refl b) _))⟩
        have hr := ownsRow_setCell_below HO.out (a := ⟨b, 0, none⟩) (by simp) (.slice (some ⟨g2, 0, none⟩) (ys.length + 1) cap2)
        rw [← hH.out, HE.out]
        simpa using hr

theorem sizeN_bad {n : Int} (h : ¬ (0 ≤ n ∧ n ≤ 281474976710656)) : sizeN n = 0 := by unfold sizeN; rw [if_neg h]

set_option maxHeartbeats 1600000 in
theorem wnum_bad (b : Nat) (n : Int) (xs : List Int) (sp : Bool) (w : World) (hW : WrAt w b xs sp) (hn : ¬ (0 ≤ n ∧ n ≤ 281474976710656)) :
    Calls Try.prog 110 #[.pointer (some ⟨b, 0, none⟩), .int .i64 n] w fun e w' => e = .returned (.pointer (some ⟨b, 0, none⟩)) ∧ WrAt w' b [] true ∧ Below b w w' := by
  have E := Lib.hid (sizeN_bad hn)
  obtain ⟨c1, f0, f1, hsize, v0, c0, hown⟩ := hW
  clear hown
  go_enter Try.func110, Try.ntmps110
  go_wp2_with (go_at_call 112; refine (size_any _ _).mono ?_; rw [E.out]; rintro e w1 ⟨rfl, rfl⟩)
  go_ret
  refine ⟨rfl, ⟨by simp [go_sem, *], by simp [go_sem, *], by simp [go_sem, *], by simp <;> omega, _, by first | (simp [go_sem, *]; done) | (simp [go_sem, *]; rfl), rfl, .inl ⟨rfl, rfl⟩⟩, ((Below.refl b _).setCell (p := ⟨b, 1, none⟩) (Nat.le_refl b) _).setCell (p := ⟨b, 0, none⟩) (Nat.le_refl b) _⟩

set_option maxHeartbeats 1600000 in
theorem wnum_spoilt (b : Nat) (n : Int) (w : World) (hW : WrAt w b [] true) :
    Calls Try.prog 110 #[.pointer (some ⟨b, 0, none⟩), .int .i64 n] w fun e w' => e = .returned (.pointer (some ⟨b, 0, none⟩)) ∧ WrAt w' b [] true ∧ Below b w w' := by
  by_cases hn : 0 ≤ n ∧ n ≤ 281474976710656
  · have hpos : (sizeN n == 0) = false := by
      unfold sizeN; rw [if_pos hn]; have := remN_range (n / 128); simp; omega
    have HW := Lib.hid hW
    obtain ⟨c1, f0, f1, hsize, v0, c0, hown⟩ := hW
    clear hown
    go_enter Try.func110, Try.ntmps110
    go_wp2_with (go_at_call 112; refine (size_any _ _).mono ?_; rintro e w1 ⟨rfl, rfl⟩)
    go_ret
    exact ⟨rfl, HW.out, Below.refl _ _⟩
  · exact wnum_bad b n [] true w hW hn

/-- A slice of bytes that can be read: at most what it holds. -/
structure BRow (w : World) (v : Value) (xs : List Int) : Prop where
  row : ∃ base, w.ownsRow base 5 1 v xs.length (u8v xs)

set_option maxHeartbeats 1600000 in
theorem wbytes_bad (b : Nat) (w : World) (hW : WrAt w b [] true) :
    Calls Try.prog 51 #[.pointer (some ⟨b, 0, none⟩)] w fun e w' => e = .returned (.tuple #[.slice none 0 0, .int .i64 1]) ∧ w = w' := by
  obtain ⟨c1, f0, f1, hsize, v0, c0, hown⟩ := hW
  clear hown
  go_enter Try.func51, Try.ntmps51
  go_wp2
  go_ret2
  exact ⟨rfl, rfl⟩

set_option maxHeartbeats 1600000 in
theorem wbytes_good (b : Nat) (xs : List Int) (w : World) (hW : WrAt w b xs false) (hl : xs.length ≤ 1000000000) :
    Calls Try.prog 51 #[.pointer (some ⟨b, 0, none⟩)] w fun e w' => (∃ v, Hid (e = .returned (.tuple #[v, .int .i64 0])) ∧ w'.ownsRow w.heap.size 5 1 v xs.length (u8v xs)) ∧ Below w.heap.size w w' := by
  obtain ⟨i0, hi, hz0, hz1, hz2⟩ := info_parts infoByte
  obtain ⟨c1, f0, f1, hsize, v0, c0, hown⟩ := hW
  rcases hown.2 with ⟨rfl, h0⟩ | ⟨g, cap, cur, rfl, hg, hh, hn, hm, hsz, hx⟩
  · have hxs : xs = [] := List.eq_nil_of_length_eq_zero h0
    subst hxs
    clear hown h0
    go_enter Try.func51, Try.ntmps51
    go_wp2_with (at_builtin; refine wpList_append_own_none rfl (.const (.slice none 0 0)) (.tmp 11) 49 rfl w.heap.size 5 i0 1 Try.underlying49 hi (.slice none 0 0) 0 [] rfl ⟨rfl, .inl ⟨rfl, rfl⟩⟩ rfl ?_)
    go_ret2
    exact ⟨⟨_, rfl, rfl, .inl ⟨rfl, rfl⟩⟩, Below.refl _ _⟩
  · have hnews : ∀ (j : Nat) (u : Value), (u8v xs)[j]? = some u → w.cell? ((⟨g, 0, none⟩ : Addr).add j) = some u := by
      intro j u hu
      have hj : j < xs.length := by have := (List.getElem?_eq_some_iff.1 hu).1; simpa using this
      have e : cur[j]? = some u := by
        rw [← hx, List.getElem?_take, if_pos (by omega)] at hu
        rw [← Array.getElem?_toList, hu]
      by_cases q : j = 0
      · subst q; simp [Addr.add, World.cell?, hh, e]
      · simp [Addr.add, q, World.cell?, hh, e]
    have HN := Lib.hid hnews
    clear hnews hx hown hh hsz
    go_enter Try.func51, Try.ntmps51
    go_wp2_with (at_builtin; refine wpList_append_own _ rfl (.const (.slice none 0 0)) (.tmp 11) 49 rfl w.heap.size 5 i0 (.int .u8 0) 1 1 Try.underlying49 hi hz0 hz1 hz2 rfl (by decide) (.slice none 0 0) 0 [] rfl ⟨rfl, .inl ⟨rfl, rfl⟩⟩ ⟨g, 0, none⟩ xs.length cap (u8v xs) rfl (by simp) ?n1 ?n2 ?n3 ?n4 ?n5 ?nx)
    case n1 => exact HN.out
    case n2 => intro u hu; simp at hu; obtain ⟨x, _, rfl⟩ := hu; rfl
    case n3 => unfold maxLen; omega
    case n4 => omega
    case n5 => exact Nat.le_refl _
    case nx =>
      intro v2 w2 hown2 hgrow2 _
      have HO := Lib.hid hown2
      have HB := Lib.hid ((Below.refl w.heap.size w).grown hgrow2 (Nat.le_refl _) (fun k h => by cases h))
      clear hown2 hgrow2
      go_wp2_with fail
      go_ret2
      exact ⟨⟨v2, rfl, by simpa using HO.out⟩, HB.out⟩
end Go.Proofs.Ytllcmapgigfgoaa
