/-
  The walk of CodeShort.
-/
import Derived.Test.YtllcmapgigfgoaaCdH
namespace Go.Proofs.Ytllcmapgigfgoaa
open Go.RowKit
set_option linter.unusedSimpArgs false
set_option linter.unusedVariables false

theorem own8_emptyAt (w : World) (n base : Nat) (hn : w.heap.size = n) (h : base ≤ n) : Own8 (w.alloc (.cells #[] 5)) base (.slice (some ⟨n, 0, none⟩) 0 0) [] := by
  subst hn
  exact own8_emptyC w base h
section
variable {ops : Array Oper} {rest : List Oper} {o : Oper} {a : Act} {w : World} {Q : Exit → Act → World → Prop}
theorem wpList_appStrC (hgd : o.guard = none) (s x : Operand) (ho : o.op = .call { callee := .builtin .append, args := #[s, x], argTypes := #[49, 9] })
    (base : Nat) (v : Value) (xs : List Int) (hs : a.eval s = v) (hown : Own8 w base v xs) (t : ByteArray) (hx : a.eval x = .string t) (hl : xs.length + t.size ≤ 100000000000) (hbase : base ≤ w.heap.size)
    (h : ∀ v' w', Own8 w' base v' (xs ++ byt t) → Below base w w' → w.heap.size ≤ w'.heap.size → wpList Try.prog ops Q rest (a.put o.dst v') w') : wpList Try.prog ops Q (o :: rest) a w := by
  obtain ⟨i0, hi, hz0, hz1, hz2⟩ := info_parts info8
  refine Lib.wpList_append_own_string _ hgd s x 49 9 ho base 5 i0 Try.underlying49 Try.underlying9 hi hz0 hz1 hz2 v xs.length (u8v xs) hs hown t hx (by unfold maxLen; omega) (by omega) hbase ?_
  intro v' w' q1 q2 _
  refine h v' w' ?_ ((Below.refl base w).grown q2 hbase (own8_from hown)) q2.size
  unfold Own8
  rw [byt_cells] at q1
  rw [List.length_append, byt_length]
  have e : u8v (xs ++ byt t) = u8v xs ++ u8v (byt t) := by simp [u8v]
  rw [e]; exact q1
end
set_option maxRecDepth 100000 in
set_option maxHeartbeats 8000000 in
theorem short_law (v : Value) (x : Msg7) (at1 : Int) (s : ByteArray) (w : World) (h : MsgIs w v x) (ha : (Lit.int .i64 at1).wf = true) (hs : s.size ≤ maxLen) :
    Calls Try.prog 9 #[v, .int .i64 at1, .string s] w (TruP w) := by
  clear ha
  have hsm : (s.size : Int) ≤ 9223372036854775807 := by unfold maxLen at hs; omega
  clear hs
  have HM := Lib.hid h
  obtain ⟨cs, rfl, hs⟩ := h
  have HI : Hid ((Try.prog.info? 44).map (·.size) = some cs.size) := Lib.hid (by rw [ms_size hs]; kernel_rfl)
  have HX := Lib.hid (bka_new w 44 cs)
  have HB0 : Hid (Below w.heap.size w (w.alloc (.cells cs 44))) := Lib.hid ((Below.refl _ _).alloc (Nat.le_refl _) _)
  have HS0 : Hid ((w.alloc (.cells cs 44)).heap.size = w.heap.size + 1) := Lib.hid (by simp)
  clear hs
  go_enter Try.func9, Try.ntmps9
  go_wp2_with fail
  refine (works_any _).mono ?_
  rintro e w1 ⟨rfl, hb⟩
  have HX1 := Lib.hid ((hb.block _ (by rw [HS0.out]; omega)).trans HX.out)
  have HB1 := Lib.hid (HB0.out.trans (hb.mono HB0.out.size))
  have HS1 : Hid (w.heap.size + 1 ≤ w1.heap.size) := Lib.hid (by have := hb.size; have := HS0.out; omega)
  clear hb HX HB0 HS0
  go_wp2_with (refine wpList_load_row rfl _ _ rfl (w.heap.size) rfl 44 cs (0, 0) _ HX1.out Try.underlying44 rfl HI.out ?_)
  refine (few_any _ x w1 (HM.out.on HB1.out)).mono ?_
  rintro e w2 ⟨R, he, hF, hb⟩
  rw [he.out]
  clear he
  have HF := Lib.hid hF
  have HX2 := Lib.hid ((hb.block _ (by have := HS1.out; omega)).trans HX1.out)
  have HB2 := Lib.hid (HB1.out.trans (hb.mono HB1.out.size))
  have HS2 : Hid (w.heap.size + 1 ≤ w2.heap.size) := Lib.hid (by have := hb.size; have := HS1.out; omega)
  clear hF hb HX1 HB1 HS1
  cases R with
  | false =>
    go_wp2_with fail
    go_ret
    exact ⟨rfl, HB2.out⟩
  | true =>
    by_cases q0 : 3000 < s.size
    · have s1 : decide ((3000 : Int) < (s.size : Int)) = true := decide_eq_true (by omega)
      have s2 : (3000 : Int) < (s.size : Int) := by omega
      have s3 : decide (3000 < s.size) = true := decide_eq_true q0
      go_wp2_with fail
      go_ret
      exact ⟨rfl, HB2.out⟩
    have s1 : decide ((3000 : Int) < (s.size : Int)) = false := decide_eq_false (by omega)
    have s3 : decide (3000 < s.size) = false := decide_eq_false q0
    by_cases q1 : s.size = 0
    · have r1 : ((s.size : Int) == 0) = true := by simp [q1]
      have r2 : (s.size == 0) = true := by simp [q1]
      go_wp2_with fail
      go_ret
      exact ⟨rfl, HB2.out⟩
    have r1 : ((s.size : Int) == 0) = false := beq_eq_false_iff_ne.2 (by omega)
    have r2 : (s.size == 0) = false := beq_eq_false_iff_ne.2 (by omega)
    by_cases q2 : at1 < 0
    · have t2 : decide (at1 < 0) = true := decide_eq_true q2
      go_wp2_with fail
      go_ret
      exact ⟨rfl, HB2.out⟩
    have t2 : decide (at1 < 0) = false := decide_eq_false q2
    obtain ⟨k, rfl⟩ := Int.eq_ofNat_of_zero_le (show 0 ≤ at1 by omega)
    have HN := Lib.hid q1
    have HS3 := Lib.hid (show s.size ≤ 3000 by omega)
    clear q1 q2 q0
    go_wp2_with (refine wpList_load_row rfl _ _ rfl (w.heap.size) rfl 44 cs (0, 0) _ HX2.out Try.underlying44 rfl HI.out ?_)
    refine (msg_any _ x w2 (HM.out.on HB2.out)).mono ?_
    rintro e w3 hP
    have HP := Lib.hid hP
    clear hP
    rcases HP.out with ⟨q, u, he, h1, hb⟩ | ⟨q, he, hb⟩
    rotate_left
    · rw [he.out]
      clear he
      have HB3 := Lib.hid (HB2.out.trans (hb.mono HB2.out.size))
      clear HP q hb
      go_wp2_with fail
      go_ret
      exact ⟨rfl, HB3.out⟩
    rw [he.out]
    clear he
    have hlen := few_len q (HF.out (by first | rfl | trivial))
    obtain ⟨a3, c3, hv⟩ := h1.slice
    subst hv
    have HB3 := Lib.hid (HB2.out.trans (hb.mono HB2.out.size))
    have HQ := Lib.hid q
    obtain ⟨L, hL⟩ : ∃ L, (eF (msC.fs x)).length = L := ⟨_, rfl⟩
    have h1 := h1.bt (by omega)
    rw [hL] at h1 hlen ⊢
    have HT := Lib.hid h1
    have HL := Lib.hid hL
    have HLm := Lib.hid hlen
    have hL9 : (L : Int) ≤ 9223372036854775807 := by omega
    clear HP q hb HF HX2 h1 hL
    by_cases q3 : L ≤ k
    · have t3 : decide ((L : Int) ≤ (k : Int)) = true := decide_eq_true (by omega)
      have t4 : (L : Int) ≤ (k : Int) := by omega
      have t5 : decide (L ≤ k) = true := decide_eq_true q3
      clear hlen
      go_wp2_with fail
      go_ret
      exact ⟨rfl, HB3.out⟩
    have t3 : decide ((L : Int) ≤ (k : Int)) = false := decide_eq_false (by omega)
    have t5 : decide (L ≤ k) = false := decide_eq_false q3
    have hkL : k < L := by omega
    have HK := Lib.hid hkL
    clear hlen q3
    have hkc : k ≤ c3 := by
      obtain ⟨ad, cap, e, h1, h2⟩ := HT.out.row
      simp only [Value.slice.injEq] at e
      have h3 := h2.2.1
      rw [HL.out] at h3
      omega
    have hkc' : (k : Int) ≤ (c3 : Int) := by omega
    have H4 : Hid (Bt w3 (.slice a3 k c3) ((eF (msC.fs x)).take k)) := Lib.hid (by
      obtain ⟨ad, cap, e, h1, h2⟩ := HT.out.row
      simp only [Value.slice.injEq] at e
      obtain ⟨rfl, _, rfl⟩ := e
      have key := bt_sliced h1 h2 0 k (Nat.zero_le _) (by rw [HL.out]; omega)
      rcases a3 with _ | ⟨g, o, m⟩
      · simpa [sliced] using key
      · simpa [sliced, Addr.add] using key)
    have hBy := eF_byte HQ.out
    have HBy := Lib.hid hBy
    clear hBy
    go_wp2_with fail
    refine (ofmsg_c _ ((eF (msC.fs x)).take k) w3 H4.out (fun z hz => HBy.out z (List.mem_of_mem_take hz)) (by rw [List.length_take, HL.out]; have := HLm.out; omega)).mono ?_
    rintro e w6 ⟨cs6, he, hsz, hone, hb, _⟩
    rw [he.out, Pc.rd_short HQ.out k (by rw [HL.out]; exact HK.out)]
    clear he
    have HI6 : Hid ((Try.prog.info? 44).map (·.size) = some cs6.size) := Lib.hid (by rw [hsz]; kernel_rfl)
    have HZ6 : Hid (((#[.int .i64 0, .int .i64 0, .int .i64 0, .int .i64 0, .int .i64 0, .int .i64 0, .int .i64 0, .int .i64 0, .int .i64 0, .int .i64 0, .int .i64 0, .int .i64 0, .int .i64 0, .int .i64 0, .int .i64 0, .int .i64 0, .string ⟨#[]⟩, .string ⟨#[]⟩, .int .i64 0, .int .i64 0, .int .i64 0, .int .i64 0, .slice none 0 0, .int .i64 0, .slice none 0 0, .slice none 0 0, .slice none 0 0] : Array Value)).size = cs6.size) := Lib.hid (by rw [hsz]; rfl)
    have HO6 := Lib.hid hone
    have HA6 := Lib.hid (bka_new w6 44 (#[.int .i64 0, .int .i64 0, .int .i64 0, .int .i64 0, .int .i64 0, .int .i64 0, .int .i64 0, .int .i64 0, .int .i64 0, .int .i64 0, .int .i64 0, .int .i64 0, .int .i64 0, .int .i64 0, .int .i64 0, .int .i64 0, .string ⟨#[]⟩, .string ⟨#[]⟩, .int .i64 0, .int .i64 0, .int .i64 0, .int .i64 0, .slice none 0 0, .int .i64 0, .slice none 0 0, .slice none 0 0, .slice none 0 0] : Array Value))
    have HW6 := Lib.hid (hb.trans ((box_below w6 44 (#[.int .i64 0, .int .i64 0, .int .i64 0, .int .i64 0, .int .i64 0, .int .i64 0, .int .i64 0, .int .i64 0, .int .i64 0, .int .i64 0, .int .i64 0, .int .i64 0, .int .i64 0, .int .i64 0, .int .i64 0, .int .i64 0, .string ⟨#[]⟩, .string ⟨#[]⟩, .int .i64 0, .int .i64 0, .int .i64 0, .int .i64 0, .slice none 0 0, .int .i64 0, .slice none 0 0, .slice none 0 0, .slice none 0 0] : Array Value) cs6).mono hb.size))
    have HB6 := Lib.hid (HB3.out.trans (HW6.out.mono HB3.out.size))
    have HT6 := Lib.hid (HT.out.below HW6.out)
    have HLW : Hid (w.heap.size ≤ w6.heap.size) := Lib.hid (by have := HB3.out.size; have := hb.size; omega)
    clear hsz hone hb HB3 H4 HT HW6
    go_wp2_with (first | refine wpList_store_row rfl 44 _ _ rfl w6.heap.size rfl cs6 rfl (#[.int .i64 0, .int .i64 0, .int .i64 0, .int .i64 0, .int .i64 0, .int .i64 0, .int .i64 0, .int .i64 0, .int .i64 0, .int .i64 0, .int .i64 0, .int .i64 0, .int .i64 0, .int .i64 0, .int .i64 0, .int .i64 0, .string ⟨#[]⟩, .string ⟨#[]⟩, .int .i64 0, .int .i64 0, .int .i64 0, .int .i64 0, .slice none 0 0, .int .i64 0, .slice none 0 0, .slice none 0 0, .slice none 0 0] : Array Value) 44 HA6.out HI6.out HZ6.out HO6.out ?_ | refine wpList_app (o := ⟨some 59, _, _, _, _, _⟩) rfl _ _ rfl (w6.heap.size + 1) _ [] rfl (own8_emptyAt _ (w6.heap.size + 1) _ (box_size _ _ _ _) (Nat.le_refl _)) _ (eF (msC.fs x)) rfl (HT6.out.below ((Below.refl _ _).alloc (Nat.le_refl _) _)) (by rw [HL.out]; have := HLm.out; simp; omega) (by rw [World.size_alloc, box_size]; omega) ?_)
    intro v7 w7 ho7 hb7 hz7
    have ho7' : Own8 w7 w6.heap.size v7 (eF (msC.fs x)) := Own8.le ho7 (by omega)
    have HO7 := Lib.hid ho7'
    have HB7 := Lib.hid (HB6.out.trans ((((Below.refl (w6.heap.size + 1) ((w6.alloc (.cells (#[.int .i64 0, .int .i64 0, .int .i64 0, .int .i64 0, .int .i64 0, .int .i64 0, .int .i64 0, .int .i64 0, .int .i64 0, .int .i64 0, .int .i64 0, .int .i64 0, .int .i64 0, .int .i64 0, .int .i64 0, .int .i64 0, .string ⟨#[]⟩, .string ⟨#[]⟩, .int .i64 0, .int .i64 0, .int .i64 0, .int .i64 0, .slice none 0 0, .int .i64 0, .slice none 0 0, .slice none 0 0, .slice none 0 0] : Array Value) 44)).setRow w6.heap.size cs6)).alloc (by rw [box_size]; omega) _).trans hb7).mono (by have := HLW.out; omega)))
    have hz7' : w6.heap.size ≤ w7.heap.size := by omega
    have HZ7 := Lib.hid hz7'
    clear ho7 hb7 hz7 ho7' hz7' HT6 HA6 HI6 HZ6 HO6
    go_wp2_with (refine wpList_appStrC (o := ⟨some 61, _, _, _, _, _⟩) rfl _ _ rfl w6.heap.size _ (eF (msC.fs x)) rfl HO7.out s rfl (by rw [HL.out]; have := HLm.out; have := HS3.out; omega) HZ7.out ?_)
    intro v8 w8 ho8 hb8 hz8
    have hl8 : (eF (msC.fs x) ++ byt s).length ≤ 1000000 := by rw [List.length_append, HL.out, byt_length]; have := HLm.out; have := HS3.out; omega
    have HT8 := Lib.hid (ho8.bt (by omega))
    have HW8 : Hid (Below w.heap.size w w8) := Lib.hid (HB7.out.trans (hb8.mono (by have := HLW.out; omega)))
    have HL8 := Lib.hid hl8
    have HR8 : Hid (BytL (eF (msC.fs x) ++ byt s)) := Lib.hid (fun z hz => by
      rcases List.mem_append.1 hz with hz | hz
      · exact HBy.out z hz
      · exact byt_range s z hz)
    have HNe : Hid (byt s ≠ []) := Lib.hid (fun q => HN.out (by have := congrArg List.length q; rw [byt_length] at this; simpa using this))
    clear ho8 hb8 hz8 hl8 HO7 HB7 HZ7
    obtain ⟨ys, hys⟩ : ∃ ys, eF (msC.fs x) ++ byt s = ys := ⟨_, rfl⟩
    have HYs := Lib.hid hys
    rw [hys] at HT8 HL8 HR8
    clear hys
    go_wp2_with fail
    refine (ofmsg_c _ ys w8 HT8.out HR8.out (by have := HL8.out; omega)).mono ?_
    rintro e w9 ⟨cs9, he, hsz, hone, hb, _⟩
    rw [he.out, ← HYs.out, Pc.rd_more HQ.out (byt s) HNe.out]
    clear he
    have HI9 : Hid ((Try.prog.info? 44).map (·.size) = some cs9.size) := Lib.hid (by rw [hsz]; kernel_rfl)
    have HZ9 : Hid (((#[.int .i64 0, .int .i64 0, .int .i64 0, .int .i64 0, .int .i64 0, .int .i64 0, .int .i64 0, .int .i64 0, .int .i64 0, .int .i64 0, .int .i64 0, .int .i64 0, .int .i64 0, .int .i64 0, .int .i64 0, .int .i64 0, .string ⟨#[]⟩, .string ⟨#[]⟩, .int .i64 0, .int .i64 0, .int .i64 0, .int .i64 0, .slice none 0 0, .int .i64 0, .slice none 0 0, .slice none 0 0, .slice none 0 0] : Array Value)).size = cs9.size) := Lib.hid (by rw [hsz]; rfl)
    have HO9 := Lib.hid hone
    have HA9 := Lib.hid (bka_new w9 44 (#[.int .i64 0, .int .i64 0, .int .i64 0, .int .i64 0, .int .i64 0, .int .i64 0, .int .i64 0, .int .i64 0, .int .i64 0, .int .i64 0, .int .i64 0, .int .i64 0, .int .i64 0, .int .i64 0, .int .i64 0, .int .i64 0, .string ⟨#[]⟩, .string ⟨#[]⟩, .int .i64 0, .int .i64 0, .int .i64 0, .int .i64 0, .slice none 0 0, .int .i64 0, .slice none 0 0, .slice none 0 0, .slice none 0 0] : Array Value))
    have HB9 := Lib.hid (HW8.out.trans ((hb.trans ((box_below w9 44 (#[.int .i64 0, .int .i64 0, .int .i64 0, .int .i64 0, .int .i64 0, .int .i64 0, .int .i64 0, .int .i64 0, .int .i64 0, .int .i64 0, .int .i64 0, .int .i64 0, .int .i64 0, .int .i64 0, .int .i64 0, .int .i64 0, .string ⟨#[]⟩, .string ⟨#[]⟩, .int .i64 0, .int .i64 0, .int .i64 0, .int .i64 0, .slice none 0 0, .int .i64 0, .slice none 0 0, .slice none 0 0, .slice none 0 0] : Array Value) cs9).mono hb.size)).mono HW8.out.size))
    clear hsz hone hb HW8 HT8 HR8
    go_wp2_with (refine wpList_store_row rfl 44 _ _ rfl w9.heap.size rfl cs9 rfl (#[.int .i64 0, .int .i64 0, .int .i64 0, .int .i64 0, .int .i64 0, .int .i64 0, .int .i64 0, .int .i64 0, .int .i64 0, .int .i64 0, .int .i64 0, .int .i64 0, .int .i64 0, .int .i64 0, .int .i64 0, .int .i64 0, .string ⟨#[]⟩, .string ⟨#[]⟩, .int .i64 0, .int .i64 0, .int .i64 0, .int .i64 0, .slice none 0 0, .int .i64 0, .slice none 0 0, .slice none 0 0, .slice none 0 0] : Array Value) 44 HA9.out HI9.out HZ9.out HO9.out ?_)
    go_ret
    exact ⟨rfl, HB9.out⟩
end Go.Proofs.Ytllcmapgigfgoaa
