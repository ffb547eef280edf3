/-
  The walk of config.with: one more node, at its place.
-/
import Derived.Test.YtacjmcjmenbekaaCfg3
import Derived.Test.YtacjmcjmenbekaaCfg4
import Derived.Deep.RegionLaw
namespace Go.Proofs.Ytacjmcjmenbekaa
open Go.RowKit
set_option linter.unusedSimpArgs false
set_option linter.unusedVariables false

/-- An operation that comes to a value, as a step of a region that draws. -/
theorem step_value {P : Program} {ops : Array Oper} {o : Oper} {a : Act} {w : World} {K : Act → World → Prop} {Q : Exit → Act → World → Prop} {E : Prop}
    (hg : o.guard = none) (v : Value) (w' : World) (hr : (execOp a.eval o).run P w = .ok (.value v) w') (hK : K (a.put o.dst v) w') :
    if Region.wanted o (yielded ops a.tmps) = true then Oper.wp P o a w K Q else E := by
  rw [if_pos (by simp [Region.wanted, hg])]
  unfold Oper.wp
  rw [hr]
  exact hK
theorem step_full {ops : Array Oper} {o : Oper} {a : Act} {w : World} {K : Act → World → Prop} {Q : Exit → Act → World → Prop} {E : Prop}
    (hg : o.guard = none) (s x : Operand) (ho : o.op = .call { callee := .builtin .append, args := #[s, x], argTypes := #[22, 22] })
    (g off : Nat) (xs : List Int) (n : Nat) (hs : a.eval s = .slice (some ⟨g, off, none⟩) n n) (hn : n = xs.length) (h1 : IRow w (some ⟨g, off, none⟩) xs) (g2 : Nat) (z : Int) (hx : a.eval x = .slice (some ⟨g2, 0, none⟩) 1 1) (hz : w.cell? ⟨g2, 0, none⟩ = some (.int .i64 z)) (hl : xs.length ≤ 100000)
    (hK : ∀ v' w', OwnI w' w.heap.size v' (xs ++ [z]) → Below w.heap.size w w' → w'.heap.size = w.heap.size + 1 → K (a.put o.dst v') w') :
    if Region.wanted o (yielded ops a.tmps) = true then Oper.wp Try.prog o a w K Q else E := by
  subst hn
  obtain ⟨v', w', hr, q1, q2, q3⟩ := run_app_full h1 g2 z hz hl o.type
  refine step_value hg v' w' ?_ (hK v' w' q1 q2 q3)
  unfold execOp
  simp only [ho, resolve, invoke, builtin, Sem.run_bind, Sem.run_pure, Result.andThen_ok, List.map_toArray, List.map_cons, List.map_nil, hs, hx, hr]
theorem step_nil {ops : Array Oper} {o : Oper} {a : Act} {w : World} {K : Act → World → Prop} {Q : Exit → Act → World → Prop} {E : Prop}
    (hg : o.guard = none) (s x : Operand) (ho : o.op = .call { callee := .builtin .append, args := #[s, x], argTypes := #[22, 22] })
    (hs : a.eval s = .slice none 0 0) (g2 : Nat) (z : Int) (hx : a.eval x = .slice (some ⟨g2, 0, none⟩) 1 1) (hz : w.cell? ⟨g2, 0, none⟩ = some (.int .i64 z))
    (hK : ∀ v' w', OwnI w' w.heap.size v' [z] → Below w.heap.size w w' → w'.heap.size = w.heap.size + 1 → K (a.put o.dst v') w') :
    if Region.wanted o (yielded ops a.tmps) = true then Oper.wp Try.prog o a w K Q else E := by
  obtain ⟨v', w', hr, q1, q2, q3⟩ := run_app_nil g2 z hz o.type
  refine step_value hg v' w' ?_ (hK v' w' q1 q2 q3)
  unfold execOp
  simp only [ho, resolve, invoke, builtin, Sem.run_bind, Sem.run_pure, Result.andThen_ok, List.map_toArray, List.map_cons, List.map_nil, hs, hx, hr]
theorem step_appI {ops : Array Oper} {o : Oper} {a : Act} {w : World} {K : Act → World → Prop} {Q : Exit → Act → World → Prop} {E : Prop}
    (hg : o.guard = none) (s x : Operand) (ho : o.op = .call { callee := .builtin .append, args := #[s, x], argTypes := #[22, 22] })
    (base : Nat) (v : Value) (xs : List Int) (hs : a.eval s = v) (hown : OwnI w base v xs) (vy : Value) (ys : List Int) (hx : a.eval x = vy) (hy : It w vy ys) (hl : xs.length + ys.length ≤ 100000000000) (hbase : base ≤ w.heap.size)
    (hK : ∀ v' w', OwnI w' base v' (xs ++ ys) → Below base w w' → w.heap.size ≤ w'.heap.size → K (a.put o.dst v') w') :
    if Region.wanted o (yielded ops a.tmps) = true then Oper.wp Try.prog o a w K Q else E := by
  obtain ⟨v', w', hr, q1, q2, q3, q4⟩ := run_appI hown hy hl hbase o.type
  refine step_value hg v' w' ?_ (hK v' w' q1 q2 q3)
  unfold execOp
  simp only [ho, resolve, invoke, builtin, Sem.run_bind, Sem.run_pure, Result.andThen_ok, List.map_toArray, List.map_cons, List.map_nil, hs, hx, hr]
theorem OwnI.base {w : World} {b b2 : Nat} {v : Value} {xs : List Int} (h : OwnI w b v xs) (hb : b2 ≤ b) : OwnI w b2 v xs := by
  obtain ⟨h1, h2⟩ := h
  refine ⟨h1, ?_⟩
  rcases h2 with h2 | ⟨g, cap, cur, hv, hg, hr⟩
  · exact .inl h2
  · exact .inr ⟨g, cap, cur, hv, Nat.le_trans hb hg, hr⟩
set_option maxHeartbeats 1000000 in
theorem with_go (x : Int) (g off : Nat) (cap : Nat) (ns : List Int) (w : World) (hr : IRow w (some ⟨g, off, none⟩) ns) (hs : Rises ns) (hn : ns.length ≤ 1000) (k : Nat) (hk : k ≤ ns.length) (hcap : ns.length ≤ cap) (hsp : spot x ns = k) (A : Addr)
    (hA : (if cap = k then some (⟨g, off, none⟩ : Addr) else some ⟨g, off + k, none⟩) = some A) (hI : It w (.slice (some A) (ns.length - k) (cap - k)) (ns.drop k)) :
    Calls Try.prog 35 #[.slice (some ⟨g, off, none⟩) ns.length cap, .int .i64 x] w (PickPost (ins x ns) w) := by
  have HR := Lib.hid hr
  have HS := Lib.hid hs
  have HK := Lib.hid hsp
  have HI := Lib.hid hI
  have hkc : k ≤ cap := by omega
  have HT : Hid (IRow w (some ⟨g, off, none⟩) (ns.take k)) := by
    refine ⟨by simp; have := hr.1; omega, ?_⟩
    by_cases z : ns.take k = []
    · exact .inl z
    rcases hr.2 with h0 | ⟨b, o, ha, hb, hc⟩
    · exact .inl (by rw [h0]; simp)
    · exact .inr ⟨b, o, ha, hb, fun i hi => by
        have hi' : i < k ∧ i < ns.length := by simp at hi; omega
        have := hc i hi'.2
        rw [this]
        simp [List.getD, List.getElem?_take, hi'.1]⟩
  clear hr hs hsp hI
  go_enter Try.func35, Try.ntmps35
  go_wp2_with fail
  refine (bs_any x _ cap ns _ HR.out HS.out hn).mono ?_
  rintro e w1 ⟨b, he, rfl⟩
  subst he
  rw [HK.out]
  go_wp2_with fail
  go_region_law (first
    | (refine step_full rfl (.tmp 16) (.tmp 18) rfl g off (ns.take k) k rfl (by simp; omega) (HT.out.below (((Below.refl _ _).drew).alloc (by simp) _)) _ x rfl (by simp [go_sem]) (by simp; omega) ?_
       intro v1 w2 ho hb2 hz2
       have HO : Hid (OwnI w2 w.heap.size v1 (ns.take k ++ [x])) := Lib.hid (by have := ho.base (show w.heap.size ≤ _ by simp); exact this)
       have HB2 : Hid (Below w.heap.size w w2) := Lib.hid ((((Below.refl w.heap.size w).drew).alloc (by simp) _).trans (hb2.mono (by simp)))
       clear ho hb2 hz2)
    | (refine step_appI rfl (.tmp 19) (.tmp 22) rfl w.heap.size _ (ns.take k ++ [x]) rfl HO.out _ (ns.drop k) rfl (HI.out.below HB2.out) (by simp; omega) HB2.out.size ?_
       intro v2 w3 ho3 hb3 hz3
       have HO3 : Hid (OwnI w3 w.heap.size v2 (ins x ns)) := Lib.hid (by rw [ins, HK.out]; exact ho3)
       have HB3 : Hid (Below w.heap.size w w3) := Lib.hid (HB2.out.trans hb3)
       clear ho3 hb3 hz3))
  all_goals
    go_wp2
    go_ret
    exact ⟨_, rfl, HO3.out.itF (by rw [ins_length]; omega), HB3.out⟩
set_option maxHeartbeats 1000000 in
theorem with_nil (x : Int) (w : World) : Calls Try.prog 35 #[.slice none 0 0, .int .i64 x] w (PickPost [x] w) := by
  have hR : IRow w none [] := ⟨by simp, .inl rfl⟩
  have HR := Lib.hid hR
  clear hR
  go_enter Try.func35, Try.ntmps35
  go_wp2_with fail
  refine (bs_any x none 0 [] _ HR.out List.Pairwise.nil (by simp)).mono ?_
  rintro e w1 ⟨b, he, rfl⟩
  subst he
  rw [show spot x [] = 0 from rfl]
  go_wp2_with fail
  go_region_law (first
    | (refine step_nil rfl (.tmp 16) (.tmp 18) rfl rfl _ x rfl (by simp [go_sem]) ?_
       intro v1 w2 ho hb2 hz2
       have HO : Hid (OwnI w2 w.heap.size v1 [x]) := Lib.hid (by have := ho.base (show w.heap.size ≤ _ by simp); exact this)
       have HB2 : Hid (Below w.heap.size w w2) := Lib.hid ((((Below.refl w.heap.size w).drew).alloc (by simp) _).trans (hb2.mono (by simp)))
       clear ho hb2 hz2)
    | (refine step_appI rfl (.tmp 19) (.tmp 22) rfl w.heap.size _ [x] rfl HO.out _ [] rfl (It.nil _) (by simp) HB2.out.size ?_
       intro v2 w3 ho3 hb3 hz3
       have HO3 : Hid (OwnI w3 w.heap.size v2 [x]) := Lib.hid ho3
       have HB3 : Hid (Below w.heap.size w w3) := Lib.hid (HB2.out.trans hb3)
       clear ho3 hb3 hz3))
  all_goals
    go_wp2
    go_ret
    exact ⟨_, rfl, HO3.out.itF (by simp), HB3.out⟩
theorem with_any (x : Int) (v : Value) (ns : List Int) (w : World) (h : It w v ns) (hs : Rises ns) (hn : ns.length ≤ 1000) (hfl : ∀ ad n c, v = .slice (some ad) n c → ad.spot = none) :
    Calls Try.prog 35 #[v, .int .i64 x] w (PickPost (ins x ns) w) := by
  obtain ⟨a, c, rfl, h1, h2⟩ := h.row
  cases a with
  | none =>
    have h0 : ns = [] := by
      rcases h1.2 with h0 | ⟨g, off, ha, _⟩
      · exact h0
      · cases ha
    subst h0
    obtain rfl := h2.1 rfl
    exact with_nil x w
  | some ad =>
  obtain ⟨g, off, sp⟩ := ad
  have hsp := hfl _ _ _ rfl
  simp only at hsp
  subst hsp
  have key := it_sliced h1 h2 (spot x ns) ns.length c (spot_le x ns) (Nat.le_refl _) h2.2.1 (Nat.le_refl _)
  rw [List.take_length] at key
  by_cases q : c = spot x ns
  · refine with_go x g off c ns w h1 hs hn _ (spot_le x ns) h2.2.1 rfl ⟨g, off, none⟩ (by rw [if_pos q]) ?_
    simpa [sliced, q] using key
  · refine with_go x g off c ns w h1 hs hn _ (spot_le x ns) h2.2.1 rfl ⟨g, off + spot x ns, none⟩ (by rw [if_neg q]) ?_
    simp only [sliced, if_neg q, Nat.mul_one, Option.map_some] at key
    by_cases z : spot x ns = 0
    · simpa [Addr.add, z] using key
    · simpa [Addr.add, z] using key
end Go.Proofs.Ytacjmcjmenbekaa
