/-
  Graph: drop.
-/
import Derived.Test.YtlckjpjcfalfnaaGe
import Derived.Maps.RangeWalk
namespace Go.Proofs.Ytlckjpjcfalfnaa
open Go.RowKit Go.Sort
open Go.WideMaps
set_option linter.unusedSimpArgs false
set_option linter.unusedVariables false
set_option maxRecDepth 100000

theorem zeroSl (w : World) : (zeroValue 23).run Try.prog w = .ok (.slice none 0 0) w := by kernel_rfl
theorem cell_ne {w : World} {g o bl : Nat} {v : Value} (h : w.cell? ⟨g, o, none⟩ = some v) (hn : ∀ k cs T fr, w.heap[k]? = some (.cells cs T fr) → k ≠ bl) : some g ≠ some bl := by
  intro e
  have e2 := Option.some.inj e
  cases hh : w.heap[g]? with
  | none => simp [World.cell?, hh] at h
  | some ob =>
    cases ob with
    | cells cs T fr => exact hn _ cs T fr hh e2
    | _ => simp [World.cell?, hh] at h
theorem row_ne_base {P : Program} {α : Type} {K : Knd P α} {w : World} {base b : Nat} {v : Value} {l : List α} (h : K.Own w base v l) (hb : b < base) : some b ≠ v.ownBlock := fun e => by have := h.from b e.symm; omega
/-- What drop keeps: only its map and new blocks turn. -/
structure DrS (w0 : World) (bl bb : Nat) (cur : List (I3 × NV)) (w : World) : Prop where
  g : w0.grownBy w (some bl)
  bx : Bk w bb 55 [.map (some bl)]
  cur : MV ndV w bl cur
theorem DrS.below {w0 w w' : World} {bl bb : Nat} {cur : List (I3 × NV)} (h : DrS w0 bl bb cur w) (hb : Below w.heap.size w w') : DrS w0 bl bb cur w' :=
  ⟨h.g.trans ⟨hb.os, hb.tape, hb.output, hb.size, fun k hk _ => hb.block k hk⟩, h.bx.below hb, h.cur.below hb⟩
theorem DrS.row {w0 w w' : World} {bl bb N : Nat} {cur : List (I3 × NV)} (h : DrS w0 bl bb cur w) (hb : Below N w w') (h1 : w0.heap.size ≤ N) (h2 : bb < N) (h3 : bl < N) : DrS w0 bl bb cur w' :=
  ⟨⟨hb.os.trans h.g.os, hb.tape.trans h.g.tape, hb.output.trans h.g.output, Nat.le_trans h.g.size hb.size, fun k hk hn => (hb.block k (by omega)).trans (h.g.block k hk hn)⟩, h.bx.on hb h2, h.cur.on hb h3⟩
def DropP (w : World) (bl : Nat) (ll : List (I3 × NV)) (wl : List (I3 × SV)) (e : Ending) (w' : World) : Prop :=
  Hid (e = .returned (.tuple #[])) ∧ ∃ cur, DI (WtBy wl) ll cur [] none ∧ MV ndV w' bl cur ∧ w.grownBy w' (some bl)
set_option maxHeartbeats 8000000 in
theorem drop_any {w : World} {bl bt : Nat} {ll : List (I3 × NV)} {wl : List (I3 × SV)} (hM : MV ndV w bl ll) (hW : MV encS w bt wl) (hne : bl ≠ bt) (hR : ∀ e ∈ wl, IK.Rd w (encS e.2) e.2.ids ∧ okL e.2.ids) (hl : ll.length ≤ 2000) (hwl : wl.length ≤ 2000) :
    Calls Try.prog 44 #[.agg #[.map (some bl)], .map (some bt)] w (DropP w bl ll wl) := by
  obtain ⟨X, hX⟩ : ∃ X, w.alloc (.cells #[.map (some bl)] 55) = X := ⟨_, rfl⟩
  have hbX : Below w.heap.size w X := by rw [← hX]; exact (Below.refl _ _).alloc (Nat.le_refl _) _
  have HS0 : Hid (DrS w bl w.heap.size ll X) := Lib.hid ⟨⟨hbX.os, hbX.tape, hbX.output, hbX.size, fun k hk _ => hbX.block k hk⟩, by rw [← hX]; exact Bk.new w _ [.map (some bl)], hM.below hbX⟩
  have hWX := hW.below hbX
  have hmet := @MV.met _ _ _ _ _ hWX Value
  have hnd := hW.nodup
  obtain ⟨D, hD, _, hDs, hhas, hval⟩ := hWX.own
  have HMet := Lib.hid (hmet hhas)
  obtain ⟨m, hm⟩ : ∃ m, wl.length = m := ⟨_, rfl⟩
  rw [hm] at hD hDs hwl
  have HD := Lib.hid hD
  have HW0 := Lib.hid hW
  have HR0 := Lib.hid hR
  have HNe := Lib.hid hne
  have HWk := Lib.hid hW.keys
  have HLl := Lib.hid hM.keys
  have HBn := Lib.hid hM.blkNe
  have HLn := Lib.hid hl
  have HNd := Lib.hid hnd
  have HDs := Lib.hid hDs
  have HMl := Lib.hid hm
  obtain ⟨B0, hB0⟩ : ∃ n, w.heap.size = n := ⟨_, rfl⟩
  have HB0 := Lib.hid hB0
  rw [hB0] at HS0
  clear hM hW hmet hD hDs hhas hval hR hne hnd hWX hm
  go_enter Try.func44, Try.ntmps44
  go_wp2_with (first
    | (at_range; refine wpList_range_own _ rfl _ 77 rfl 25 23 idLaw Try.underlying77 vR bt m D rfl HD.out ?_)
    | fail)
  intro w2 hr2 hg2 hz2
  obtain ⟨it, hit⟩ : ∃ n, X.heap.size = n := ⟨_, rfl⟩
  rw [hit] at hr2 hz2
  rw [HDs.out] at hr2
  have hb2 : Below X.heap.size X w2 := ⟨hg2.os, hg2.tape, hg2.output, hg2.size, fun k hk => hg2.block k hk (by simp)⟩
  have HR2 := Lib.hid hr2
  have HS2 := Lib.hid (HS0.out.below hb2)
  have HZ : Hid (B0 < it ∧ bl < it ∧ bt < it ∧ w.heap.size ≤ it) := Lib.hid ⟨by rw [← hit, ← hX, ← hB0]; simp, by rw [← hit]; exact HS0.out.cur.lt, by rw [← hit]; exact HD.out.lt, by rw [← hit]; exact hbX.size⟩
  have HZ2 : Hid (it + 1 ≤ w2.heap.size) := Lib.hid (by omega)
  rw [hit]
  clear hr2 hg2 hz2 hb2 hit HS0 hX hbX HD hB0
  go_wp2_with fail
  go_loopw [4] (fun sl wr => ∃ (la : Option Addr) (L lc : Nat) (lost : List I3) (left : Lit → Bool) (cnt : Nat) (ss : List I3), sl = .slice la L lc ∧ Hid (lost.length = L) ∧ Hid (wr.ranges (H := Value) Try.prog 25 vR bt it m D left cnt) ∧ Hid (IK.Own wr (it + 1) (.slice la L lc) lost) ∧ Hid (DrS w bl B0 ll wr) ∧ Hid (Met (keysV wl) left ss) ∧ Hid (ss.length + cnt ≤ m) ∧ Hid ((∀ x ∈ lost, x ∉ keysV ll ∧ okI x) ∧ (∀ x ∈ ss, x ∉ keysV ll → x ∈ lost) ∧ lost.length ≤ ss.length) ∧ Hid (it + 1 ≤ wr.heap.size)) (fun _ wr => wr.rangeLeft bt it)
  case atStart => exact ⟨none, 0, 0, [], _, m, [], rfl, Lib.hid rfl, HR2, Lib.hid (Knd.Own.nil _ _), HS2, HMet, Lib.hid (by simp), Lib.hid ⟨(fun x hx => by cases hx), (fun x hx => by cases hx), Nat.le_refl _⟩, HZ2⟩
  case round =>
    clear HR2 HS2 HZ2 HMet
    obtain ⟨la, L, lc, lost, left, cnt, ss, rfl, HL, HR, HO, HS, HMt, HC, HQ, HZr⟩ := hrel
    go_wp2_with (first
      | (at_next; refine wpList_next_ranges _ rfl _ rfl 25 idLaw vR idV (fun v : Value => v) (fun key kl hk => by obtain ⟨x, hx, _⟩ := idKey_inv key kl hk; exact ⟨x, hx⟩) (fun v y hv => ⟨v, rfl⟩) bt it m _ _ _ rfl HR.out ?_ ?_)
      | fail)
    · intro hc0 hl0
      have hss := HMt.out.done hl0 (fun x hx => by obtain ⟨e, he, rfl⟩ := List.mem_map.1 hx; exact HWk.out e he)
      have HDI : Hid (DI (WtBy wl) ll ll lost none) := Lib.hid (DI.start (fun x hx => (HQ.out.1 x hx).1) fun d y ⟨st, h1, _⟩ hn => HQ.out.2.1 d ((hss d).2 (by
        have q := getV_isSome (l := wl) (x := d)
        rw [h1] at q
        exact (hasI_iff _ _).1 q.symm)) hn)
      have HLo : Hid (okL lost ∧ lost.length + ll.length ≤ 4000) := Lib.hid ⟨fun x hx => (HQ.out.1 x hx).2, by have h1 := HQ.out.2.2; have h2 := HC.out; have h3 := HLn.out; omega⟩
      have HOl : Hid (IK.Own wr (it + 1) (.slice la L lc) lost) := HO
      have HSl : Hid (DrS w bl B0 ll wr) := HS
      have HTl : Hid (lost.length = L) := HL
      have HZl : Hid (it + 1 ≤ wr.heap.size) := HZr
      have HWl : Hid (∀ x, ((getV wl x).getD ⟨none, 0, []⟩ : SV).ids.length ≤ maxLen ∧ IK.Rd w (encS ((getV wl x).getD ⟨none, 0, []⟩)) ((getV wl x).getD ⟨none, 0, []⟩ : SV).ids ∧ okL ((getV wl x).getD ⟨none, 0, []⟩ : SV).ids) := Lib.hid fun x => by
        cases q : getV wl x with
        | none => exact ⟨Nat.zero_le _, Knd.Rd.nil w, fun y hy => by cases hy⟩
        | some st =>
          have h1 := HR0.out _ ((getV_some HNd.out).1 q)
          exact ⟨h1.1.len, h1.1, h1.2⟩
      clear hc0 hl0 HMt HR HC HQ HL HO HS HZr hss HR0
      go_wp2_with fail
      go_loopw [4] (fun sl wr => ∃ (la : Option Addr) (L lc : Nat) (lost : List I3) (cur : List (I3 × NV)), sl = .slice la L lc ∧ Hid (lost.length = L) ∧ Hid (IK.Own wr (it + 1) (.slice la L lc) lost) ∧ Hid (DrS w bl B0 cur wr) ∧ Hid (DI (WtBy wl) ll cur lost none) ∧ Hid (okL lost ∧ lost.length + cur.length ≤ 4000) ∧ Hid (it + 1 ≤ wr.heap.size)) (fun sl wr => 2 * mlen wr bl + slen sl)
      case atStart => exact ⟨la, L, lc, lost, ll, rfl, HTl, HOl, HSl, HDI, HLo, HZl⟩
      case round =>
        clear HTl HOl HSl HDI HLo HZl
        obtain ⟨ta, T, tc, todo, cur, rfl, HT, HO, HS, HQ, HL, HZr⟩ := hrel
        by_cases hT0 : T = 0
        · subst hT0
          obtain rfl : todo = [] := List.eq_nil_of_length_eq_zero HT.out
          have HSf := Lib.hid HS.out.g
          have HCf := Lib.hid HS.out.cur
          clear HS HO HZr
          go_wp2
          go_end0
          exact ⟨Lib.hid rfl, cur, HQ.out, HCf.out, HSf.out⟩
        · obtain ⟨T1, hT1⟩ : ∃ T1, T = T1 + 1 := ⟨T - 1, by omega⟩
          have hne : todo ≠ [] := fun e => by have := HT.out; rw [e] at this; exact hT0 (by simpa using this.symm)
          obtain ⟨td, x, htd⟩ : ∃ td x, todo = td ++ [x] := ⟨todo.dropLast, todo.getLast hne, (List.dropLast_concat_getLast hne).symm⟩
          subst htd
          have htl : td.length = T1 := by have := HT.out; simp at this; omega
          obtain ⟨x1, x2, x3⟩ := x
          have hcap := (own_cap HO.out).1
          obtain ⟨-, gt, ot, hta, hgt, hct⟩ := HO.out.rd.at (by simp)
          subst hta
          have eK : IK.k = 3 := rfl
          have hc := hct T1 (by omega)
          have eg : (td ++ [(x1, x2, x3)]).getD T1 IK.d = (x1, x2, x3) := by rw [← htl]; simp [List.getD]
          rw [eg, eK] at hc
          have d0 : wr.cell? ⟨gt, ot + T1 * 3, none⟩ = some (.int .i64 x1) := hc 0 _ rfl
          have d1 : wr.cell? ⟨gt, ot + T1 * 3 + 1, none⟩ = some (.int .i64 x2) := hc 1 _ rfl
          have d2 : wr.cell? ⟨gt, ot + T1 * 3 + 2, none⟩ = some (.int .i64 x3) := hc 2 _ rfl
          have hT9 : T ≤ 4000 := by have h1 := HL.out.2; have h2 := HT.out; omega
          have hTi : (0 : Int) < (T : Int) := by omega
          have hTd : decide ((0 : Int) < (T : Int)) = true := decide_eq_true hTi
          have hTn : decide (0 < T) = true := decide_eq_true (by omega)
          have hsub : IntKind.i64.wrap ((T : Int) - 1) = (T1 : Int) := by rw [show (T : Int) - 1 = (T1 : Int) by omega, IntKind.wrap_i64]; omega
          have hlt : (T1 : Int) < (T : Int) := by omega
          have hle : (T1 : Int) ≤ (tc : Int) := by omega
          have hltd : decide ((T1 : Int) < (T : Int)) = true := decide_eq_true hlt
          have hxo : okI (x1, x2, x3) := HL.out.1 _ (by simp)
          obtain ⟨bx, hbx⟩ : ∃ q, wr.heap.size = q := ⟨_, rfl⟩
          obtain ⟨wf, hwf⟩ : ∃ q, wr.alloc (.cells #[.int .i64 x1, .int .i64 x2, .int .i64 x3] 25) = q := ⟨_, rfl⟩
          have hb : Below wr.heap.size wr wf := by rw [← hwf]; exact (Below.refl _ _).alloc (Nat.le_refl _) _
          have HBx : Hid (Bk wf bx 25 [.int .i64 x1, .int .i64 x2, .int .i64 x3]) := Lib.hid (by rw [← hwf]; exact Bk.newAg hbx _ [.int .i64 x1, .int .i64 x2, .int .i64 x3])
          have HO1 : Hid (IK.Own wf (it + 1) (.slice (some ⟨gt, ot, none⟩) T1 tc) td) := Lib.hid (by have q := (own_pop HO.out).2; rw [htl] at q; exact q.below hb)
          have HS1 := Lib.hid (HS.out.below hb)
          have HQ1 := Lib.hid HQ.out.pop
          have HT1 := Lib.hid htl
          have HL1 : Hid (okL td ∧ td.length + cur.length ≤ 4000) := Lib.hid ⟨fun y hy => HL.out.1 y (List.mem_append_left _ hy), by have := HL.out.2; simp at this; omega⟩
          have HZ1 : Hid (it + 1 ≤ wf.heap.size) := Lib.hid (Nat.le_trans HZr.out hb.size)
          obtain ⟨M0, hM0⟩ : ∃ mm, 2 * mlen wr bl + T = mm := ⟨_, rfl⟩
          have HM0 : Hid (2 * cur.length + T1 + 1 ≤ M0) := Lib.hid (by rw [← hM0, HS.out.cur.mlen]; omega)
          have HXo := Lib.hid hxo
          have HM0e := Lib.hid hM0
          clear hct hc eg eK hne htl hM0 HO HS HQ HL HT hxo hb HZr hgt
          go_upto_region 11 with fail
          try rw [hwf]
          try rw [hbx]
          clear d0 d1 d2 hTi hTd hTn hsub hlt hle hltd hcap hT9 hwf hbx
          have k0 := Bk.cell HBx.out 0
          have k1 := Bk.cell HBx.out 1
          have k2 := Bk.cell HBx.out 2
          simp only [List.getElem?_cons_zero, List.getElem?_cons_succ] at k0 k1 k2
          have HWf : Hid (MV encS wf bt wl) := Lib.hid (HW0.out.kept HS1.out.g (by have := HNe.out; simp; omega))
          have hsv := HWl.out (x1, x2, x3)
          have hwt : ∀ y, WtBy wl (x1, x2, x3) y → y ∈ ((getV wl (x1, x2, x3)).getD ⟨none, 0, []⟩ : SV).ids := fun y ⟨st, h1, h2⟩ => by rw [h1]; exact h2
          have hwt2 : ∀ y, y ∈ ((getV wl (x1, x2, x3)).getD ⟨none, 0, []⟩ : SV).ids → WtBy wl (x1, x2, x3) y := fun y hy => by
            cases q : getV wl (x1, x2, x3) with
            | none => rw [q] at hy; cases hy
            | some st => rw [q] at hy; exact ⟨st, q, hy⟩
          have hlk : ((getV wl (x1, x2, x3)).map encS).getD (.slice none 0 0) = encS ((getV wl (x1, x2, x3)).getD ⟨none, 0, []⟩) := by cases getV wl (x1, x2, x3) <;> rfl
          obtain ⟨sv, hsve⟩ : ∃ v, ((getV wl (x1, x2, x3)).getD ⟨none, 0, []⟩ : SV) = v := ⟨_, rfl⟩
          rw [hsve] at hsv hwt hwt2 hlk
          obtain ⟨sa, sc, sl⟩ := sv
          obtain ⟨Ls, hLs⟩ : ∃ n, sl.length = n := ⟨_, rfl⟩
          simp only [encS, hLs] at hlk hsv
          have HLk := Lib.hid hlk
          have HWt := Lib.hid hwt
          have HWt2 := Lib.hid hwt2
          have HLs := Lib.hid hLs
          have HRs : Hid (IK.Rd w (.slice sa Ls sc) sl) := Lib.hid hsv.2.1
          have HLo := Lib.hid hsv.2.2
          have hLs63 : Ls ≤ 9223372036854775807 := by have q := hsv.1; unfold maxLen at q; omega
          clear hsv hwt hwt2 hlk hsve hLs
          go_wp2_with (first
            | refine wpList_look_mv rfl _ _ 77 rfl 23 Try.underlying77 encS bt wl rfl HWf.out (x1, x2, x3) rfl HXo.out (.slice none 0 0) (zeroSl _) _ HLk.out ?_
            | fail)
          clear k0 k1 k2 HLk HBx HWf
          go_loopw [4, 50] (fun s i wr => ∃ (ta : Option Addr) (T tc k : Nat) (todo : List I3) (cur : List (I3 × NV)), s = .slice ta T tc ∧ i = .int .i64 k ∧ k ≤ Ls ∧ Hid (todo.length = T) ∧ Hid (IK.Own wr (it + 1) (.slice ta T tc) todo) ∧ Hid (DrS w bl B0 cur wr) ∧ Hid (DI (WtBy wl) ll cur todo (some ((x1, x2, x3), sl.take k))) ∧ Hid (okL todo ∧ todo.length + cur.length ≤ 4000) ∧ Hid (it + 1 ≤ wr.heap.size) ∧ Hid (2 * cur.length + T + 1 ≤ M0)) (fun _ i _ => Ls - (intOf i).toNat)
          case atStart => exact ⟨_, T1, tc, 0, td, cur, rfl, rfl, Nat.zero_le _, HT1, HO1, HS1, HQ1, HL1, HZ1, HM0⟩
          case round =>
            clear HT1 HO1 HS1 HQ1 HL1 HZ1 HM0
            obtain ⟨ta, T, tc, k, todo, cur, rfl, rfl, hk, HT, HO, HS, HQ, HL, HZr, HM⟩ := hrel
            by_cases hkD : k < Ls
            · have hk1 : (k : Int) < (Ls : Int) := by omega
              have hk2 : decide ((k : Int) < (Ls : Int)) = true := decide_eq_true hk1
              have hk3 : decide (k < Ls) = true := decide_eq_true hkD
              have hkl : k < sl.length := by rw [HLs.out]; exact hkD
              obtain ⟨-, gd, od, hsa, hgd, hcd⟩ := HRs.out.at (by intro e; rw [e] at hkl; simp at hkl)
              subst hsa
              have eK : IK.k = 3 := rfl
              have hc := hcd k hkD
              have eg : sl.getD k IK.d = sl[k] := by simp [List.getD, hkl]
              rw [eg, eK] at hc
              have hoe := HLo.out _ (List.getElem_mem hkl)
              have hwy := HWt2.out _ (List.getElem_mem hkl)
              have htk : sl.take (k + 1) = sl.take k ++ [sl[k]] := List.take_succ_eq_append_getElem hkl
              obtain ⟨ee, hee⟩ : ∃ x, sl[k] = x := ⟨_, rfl⟩
              rw [hee] at hc hoe hwy htk
              obtain ⟨e1, e2, e3⟩ := ee
              have hcc := fun j v (h : w.cell? ⟨gd, od + k * 3 + j, none⟩ = some v) => HS.out.g.cell h (cell_ne h HBn.out)
              have d0 : wr.cell? ⟨gd, od + k * 3, none⟩ = some (.int .i64 e1) := hcc 0 _ (hc 0 _ rfl)
              have d1 : wr.cell? ⟨gd, od + k * 3 + 1, none⟩ = some (.int .i64 e2) := hcc 1 _ (hc 1 _ rfl)
              have d2 : wr.cell? ⟨gd, od + k * 3 + 2, none⟩ = some (.int .i64 e3) := hcc 2 _ (hc 2 _ rfl)
              have HOe := Lib.hid hoe
              have HWy := Lib.hid hwy
              have HTk := Lib.hid htk
              -- what the nodes have of it
              have hlk5 := look_ndV cur (e1, e2, e3)
              obtain ⟨nn, hnn⟩ : ∃ n, ndOf cur (e1, e2, e3) = n := ⟨_, rfl⟩
              rw [hnn] at hlk5
              obtain ⟨⟨⟨j1, j2, j3⟩, sq, dl⟩, na, nc⟩ := nn
              obtain ⟨Dn, hDn⟩ : ∃ n, dl.length = n := ⟨_, rfl⟩
              simp only [ndV, hDn] at hlk5
              have HLk := Lib.hid hlk5
              obtain ⟨q, hq⟩ : ∃ q, (getV cur (e1, e2, e3)).isSome = q := ⟨_, rfl⟩
              have HQi := Lib.hid hq
              obtain ⟨w4, hw4⟩ : ∃ q, wr.alloc (.cells #[.int .i64 e1, .int .i64 e2, .int .i64 e3] 25) = q := ⟨_, rfl⟩
              obtain ⟨b4, hb4⟩ : ∃ q, wr.heap.size = q := ⟨_, rfl⟩
              have hbl4 : Below wr.heap.size wr w4 := by rw [← hw4]; exact (Below.refl _ _).alloc (Nat.le_refl _) _
              have HB4 : Hid (Bk w4 b4 25 [.int .i64 e1, .int .i64 e2, .int .i64 e3]) := Lib.hid (by rw [← hw4]; exact Bk.newAg hb4 _ [.int .i64 e1, .int .i64 e2, .int .i64 e3])
              have HO4 := Lib.hid (HO.out.below hbl4)
              have HS4 := Lib.hid (HS.out.below hbl4)
              have HZ4 : Hid (it + 1 ≤ w4.heap.size) := Lib.hid (Nat.le_trans HZr.out hbl4.size)
              clear hcd hc eg eK hoe hwy htk hee hcc hkl hlk5 hnn hDn hq hbl4 HO HS HZr hgd
              go_upto_region 14 with fail
              try rw [hw4]
              try rw [hb4]
              clear hw4 hb4 d0 d1 d2
              have c0 := Bk.cell HS4.out.bx 0
              have k0 := Bk.cell HB4.out 0
              have k1 := Bk.cell HB4.out 1
              have k2 := Bk.cell HB4.out 2
              simp only [List.getElem?_cons_zero, List.getElem?_cons_succ] at c0 k0 k1 k2
              obtain ⟨w5, hw5⟩ : ∃ q, w4.alloc (.cells #[.int .i64 j1, .int .i64 j2, .int .i64 j3, .int .i64 sq, .slice na Dn nc] 46) = q := ⟨_, rfl⟩
              have hbl5 : Below w4.heap.size w4 w5 := by rw [← hw5]; exact (Below.refl _ _).alloc (Nat.le_refl _) _
              have HB5 := Lib.hid (Bk.below HB4.out hbl5)
              have HO5 := Lib.hid (HO4.out.below hbl5)
              have HS5 := Lib.hid (HS4.out.below hbl5)
              have HZ5 : Hid (it + 1 ≤ w5.heap.size) := Lib.hid (Nat.le_trans HZ4.out hbl5.size)
              clear hbl5 HO4 HZ4 HB4
              cases q with
              | false =>
                have HQ5 : Hid (DI (WtBy wl) ll cur todo (some ((x1, x2, x3), sl.take (k + 1)))) := Lib.hid (by
                  rw [HTk.out]
                  refine HQ.out.skip fun r => ?_
                  have q2 := HQi.out
                  rw [getV_isSome] at q2
                  exact (hasI_false _ _).1 q2 r)
                go_wp2_with (first
                  | refine wpList_look2_mv rfl _ _ 53 rfl 46 Try.underlying53 ndV bl cur rfl HS4.out.cur (e1, e2, e3) rfl HOe.out (ndV nv0) (zeroNd _) _ HLk.out false HQi.out ?_
                  | fail)
                try rw [hw5]
                clear hw5 c0 k0 k1 k2 HS4 HB5 HLk HQi HQ
                go_roundw
                case rel => exact ⟨ta, T, tc, k + 1, todo, cur, rfl, by go_num, by omega, HT, HO5, HS5, HQ5, HL, HZ5, HM⟩
                case measure => simp [intOf]; omega
              | true =>
                have hmem : (e1, e2, e3) ∈ keysV cur := by
                  have q2 := HQi.out
                  rw [getV_isSome] at q2
                  exact (hasI_iff _ _).1 q2
                have HQ5 : Hid (DI (WtBy wl) ll (delV cur (e1, e2, e3)) (todo ++ [(e1, e2, e3)]) (some ((x1, x2, x3), sl.take (k + 1)))) := Lib.hid (by
                  rw [HTk.out]
                  exact HQ.out.del HS4.out.cur.nodup HWy.out)
                have hdl := len_delV HS4.out.cur.nodup (e1, e2, e3)
                rw [HQi.out, if_pos rfl] at hdl
                have HDl := Lib.hid hdl
                clear hdl hmem
                go_upto_region 16 with (first
                  | refine wpList_look2_mv rfl _ _ 53 rfl 46 Try.underlying53 ndV bl cur rfl HS4.out.cur (e1, e2, e3) rfl HOe.out (ndV nv0) (zeroNd _) _ HLk.out true HQi.out ?_
                  | fail)
                try rw [hw5]
                clear hw5 c0 k0 k1 k2 HS4 HLk HQi HQ
                have c0 := Bk.cell HS5.out.bx 0
                have k0 := Bk.cell HB5.out 0
                have k1 := Bk.cell HB5.out 1
                have k2 := Bk.cell HB5.out 2
                simp only [List.getElem?_cons_zero, List.getElem?_cons_succ] at c0 k0 k1 k2
                go_upto_region 17 with (first
                  | (refine wpList_del_mv rfl _ _ 53 rfl 46 Try.underlying53 ndV bl cur rfl HS5.out.cur (e1, e2, e3) rfl HOe.out ?_; intro w6 hm6 ht6; have HM6 := Lib.hid hm6; have HG6 := Lib.hid ht6.grown; clear hm6 ht6)
                  | fail)
                have HB6 := Lib.hid (HB5.out.grown HG6.out (by have := HS5.out.cur.blkNe _ _ _ _ HB5.out; simpa using this))
                have HO6 := Lib.hid (HO5.out.outA HG6.out HS5.out.cur.blkNe)
                have HS6 : Hid (DrS w bl B0 (delV cur (e1, e2, e3)) w6) := Lib.hid ⟨HS5.out.g.trans HG6.out, HS5.out.bx.grown HG6.out (by have := HS5.out.cur.blkNe _ _ _ _ HS5.out.bx; simpa using this), HM6.out⟩
                have HZ6 : Hid (it + 1 ≤ w6.heap.size) := Lib.hid (Nat.le_trans HZ5.out HG6.out.size)
                clear c0 k0 k1 k2 HS5 HB5 HO5 HZ5 HM6 HG6
                have k0 := Bk.cell HB6.out 0
                have k1 := Bk.cell HB6.out 1
                have k2 := Bk.cell HB6.out 2
                simp only [List.getElem?_cons_zero, List.getElem?_cons_succ] at k0 k1 k2
                obtain ⟨bs, hbs⟩ : ∃ q, w6.heap.size = q := ⟨_, rfl⟩
                obtain ⟨w7, hw7⟩ : ∃ q, w6.alloc (.cells #[.int .i64 e1, .int .i64 e2, .int .i64 e3] 25) = q := ⟨_, rfl⟩
                have hb : Below w6.heap.size w6 w7 := by rw [← hw7]; exact (Below.refl _ _).alloc (Nat.le_refl _) _
                have HRd7 : Hid (IK.Rd w7 (.slice (some ⟨bs, 0, none⟩) 1 1) [(e1, e2, e3)]) := Lib.hid (by rw [← hw7]; exact IK.rd_boxAt (e1, e2, e3) _ 1 w6 bs hbs)
                have HO7 := Lib.hid (HO6.out.below hb)
                have HS7 := Lib.hid (HS6.out.below hb)
                have HZ7 : Hid (it + 1 ≤ w7.heap.size) := Lib.hid (Nat.le_trans HZ6.out hb.size)
                have HLn7 : Hid (todo.length + [(e1, e2, e3)].length ≤ 1000000) := Lib.hid (by have h1 := HL.out.2; simp; omega)
                clear hb HO6 HS6 HZ6 HB6
                go_wp2_with (first
                  | (refine IK.app (by kernel_rfl) (.tmp 65) (.tmp 67) rfl (it + 1) (.slice ta T tc) todo rfl HO7.out (.slice (some ⟨bs, 0, none⟩) 1 1) [(e1, e2, e3)] rfl HRd7.out HLn7.out HZ7.out ?_; intro v8 w8 ho8 hb8 hg8 _; have HO8 := Lib.hid ho8; have HB8 := Lib.hid hb8; clear ho8 hb8 hg8; obtain ⟨a8, c8, hv8⟩ := HO8.out.slice; obtain ⟨T8, hT8⟩ : ∃ n, (todo ++ [(e1, e2, e3)]).length = n := ⟨_, rfl⟩; rw [hT8] at hv8; subst hv8; have HT8 := Lib.hid hT8; clear hT8)
                  | fail)
                have HS8 := Lib.hid (HS7.out.row HB8.out (by have := HZ.out; omega) (by have := HZ.out; omega) (by have := HZ.out; omega))
                have HZ8 : Hid (it + 1 ≤ w8.heap.size) := Lib.hid (Nat.le_trans HZ7.out HB8.out.size)
                have HL8 : Hid (okL (todo ++ [(e1, e2, e3)]) ∧ (todo ++ [(e1, e2, e3)]).length + (delV cur (e1, e2, e3)).length ≤ 4000) := Lib.hid ⟨fun y hy => by
                  rcases List.mem_append.1 hy with r | r
                  · exact HL.out.1 y r
                  · simp at r; subst r; exact HOe.out, by have h1 := HL.out.2; have h2 := HDl.out; simp; omega⟩
                have HM8 : Hid (2 * (delV cur (e1, e2, e3)).length + T8 + 1 ≤ M0) := Lib.hid (by
                  have h1 := HM.out
                  have h2 := HT8.out
                  have h3 := HT.out
                  have h4 := HDl.out
                  simp only [List.length_append, List.length_cons, List.length_nil] at h2
                  omega)
                clear HS7 HZ7 HO7 HB8 k0 k1 k2 HRd7 HLn7 HDl hw7 hbs
                go_wp2_with fail
                go_roundw
                case rel => exact ⟨a8, T8, c8, k + 1, todo ++ [(e1, e2, e3)], delV cur (e1, e2, e3), rfl, by go_num, by omega, HT8, HO8, HS8, HQ5, HL8, HZ8, HM8⟩
                case measure => simp [intOf]; omega
            · have hkD2 : Ls = k := by omega
              have hk2 : decide ((k : Int) < (Ls : Int)) = false := decide_eq_false (by omega)
              have hk3 : decide (k < Ls) = false := decide_eq_false (by omega)
              have HQd := Lib.hid (HQ.out.fin (fun y hy => by
                have q := HWt.out y hy
                rw [List.take_of_length_le (by rw [HLs.out]; omega)]
                exact q))
              have hml2 := HS.out.cur.mlen
              have HMf : Hid (2 * mlen wr bl + T + 1 ≤ M0) := Lib.hid (by rw [hml2]; exact HM.out)
              clear hml2 hkD2 HM
              go_wp2_with fail
              go_roundw
              case rel => exact ⟨ta, T, tc, todo, cur, rfl, HT, HO, HS, HQd, HL, HZr⟩
              case measure => show 2 * mlen wr bl + T < _; have h1 := HMf.out; have h2 := HM0e.out; simp only [slen] at h2 ⊢; omega
    · intro x1 x2 x3 c kl yd yp w3 cnt3 hkey hlk hv hat hrg3 hlt hg3 hs3 hen
      have hxo : okI (x1, x2, x3) := by
        obtain ⟨x', ex, hxo⟩ := idKey_inv _ _ hkey
        simp only [Value.agg.injEq, Array.mk.injEq, List.cons.injEq, Value.int.injEq, true_and, and_true] at ex
        have e : ((x1, x2, x3) : I3) = x' := i3_ext ex.1 ex.2.1 ex.2.2
        rw [e]
        exact hxo
      obtain rfl : kl = kf (x1, x2, x3) := Option.some.inj (hkey.symm.trans (kf_key hxo))
      have HMt3 := Lib.hid (HMt.out.step hxo hlk)
      have HXo := Lib.hid hxo
      have HLT : Hid (cnt3 < cnt) := Lib.hid hlt
      have HLE := Lib.hid HR.out.left_eq
      have HO3 : Hid (IK.Own w3 (it + 1) (.slice la L lc) lost) := Lib.hid (HO.out.keepB fun k hk => hg3.block k (HO.out.blk k hk).1 (fun e => row_ne_base HO.out (Nat.lt_succ_self it) (by rw [hk, e])))
      have HS3 : Hid (DrS w bl B0 ll w3) := Lib.hid ⟨⟨hg3.os.trans HS.out.g.os, hg3.tape.trans HS.out.g.tape, hg3.output.trans HS.out.g.output, Nat.le_trans HS.out.g.size hg3.size, fun k hk hn => (hg3.block k (Nat.lt_of_lt_of_le hk HS.out.g.size) (by have := HZ.out.2.2.2; simp; omega)).trans (HS.out.g.block k hk hn)⟩, HS.out.bx.grown hg3 (by have := HZ.out.1; simp; omega), HS.out.cur.kept hg3 (by have := HZ.out.2.1; simp; omega)⟩
      have HZ3 : Hid (it + 1 ≤ w3.heap.size) := Lib.hid (Nat.le_trans HZr.out hg3.size)
      have HR3 := Lib.hid hrg3
      -- what the nodes have of it
      have hlk5 := look_ndV ll (x1, x2, x3)
      obtain ⟨nn, hnn⟩ : ∃ n, ndOf ll (x1, x2, x3) = n := ⟨_, rfl⟩
      rw [hnn] at hlk5
      obtain ⟨⟨⟨j1, j2, j3⟩, sq, dl⟩, na, nc⟩ := nn
      obtain ⟨Dn, hDn⟩ : ∃ n, dl.length = n := ⟨_, rfl⟩
      simp only [ndV, hDn] at hlk5
      have HLk := Lib.hid hlk5
      obtain ⟨q, hq⟩ : ∃ q, (getV ll (x1, x2, x3)).isSome = q := ⟨_, rfl⟩
      have HQi := Lib.hid hq
      obtain ⟨w4, hw4⟩ : ∃ q, w3.alloc (.cells #[.int .i64 x1, .int .i64 x2, .int .i64 x3] 25) = q := ⟨_, rfl⟩
      obtain ⟨b4, hb4⟩ : ∃ q, w3.heap.size = q := ⟨_, rfl⟩
      have hbl4 : Below w3.heap.size w3 w4 := by rw [← hw4]; exact (Below.refl _ _).alloc (Nat.le_refl _) _
      have HB4 : Hid (Bk w4 b4 25 [.int .i64 x1, .int .i64 x2, .int .i64 x3]) := Lib.hid (by rw [← hw4]; exact Bk.newAg hb4 _ [.int .i64 x1, .int .i64 x2, .int .i64 x3])
      have HR4 := Lib.hid (show w4.ranges (H := Value) Try.prog 25 vR bt it m D _ cnt3 by rw [← hw4]; exact HR3.out.alloc _)
      have HO4 := Lib.hid (HO3.out.below hbl4)
      have HS4 := Lib.hid (HS3.out.below hbl4)
      have HZ4 : Hid (it + 1 ≤ w4.heap.size) := Lib.hid (Nat.le_trans HZ3.out hbl4.size)
      clear hkey hlk hv hat hrg3 hlt hg3 hs3 HR HO HS HMt hxo hlk5 hnn hDn hq hbl4 HR3 HO3 HS3 HZ3 HZr
      go_upto_region 5 with fail
      try rw [hw4]
      try rw [hb4]
      clear hen hw4 hb4
      have c0 := Bk.cell HS4.out.bx 0
      have k0 := Bk.cell HB4.out 0
      have k1 := Bk.cell HB4.out 1
      have k2 := Bk.cell HB4.out 2
      simp only [List.getElem?_cons_zero, List.getElem?_cons_succ] at c0 k0 k1 k2
      obtain ⟨w5, hw5⟩ : ∃ q, w4.alloc (.cells #[.int .i64 j1, .int .i64 j2, .int .i64 j3, .int .i64 sq, .slice na Dn nc] 46) = q := ⟨_, rfl⟩
      have hbl5 : Below w4.heap.size w4 w5 := by rw [← hw5]; exact (Below.refl _ _).alloc (Nat.le_refl _) _
      have HB5 := Lib.hid (Bk.below HB4.out hbl5)
      have HR5 := Lib.hid (show w5.ranges (H := Value) Try.prog 25 vR bt it m D _ cnt3 by rw [← hw5]; exact HR4.out.alloc _)
      have HO5 := Lib.hid (HO4.out.below hbl5)
      have HS5 := Lib.hid (HS4.out.below hbl5)
      have HZ5 : Hid (it + 1 ≤ w5.heap.size) := Lib.hid (Nat.le_trans HZ4.out hbl5.size)
      have HC5 : Hid ((ss ++ [(x1, x2, x3)]).length + cnt3 ≤ m) := Lib.hid (by have := HC.out; have := HLT.out; simp; omega)
      clear hbl5 HR4 HO4 HZ4 HB4 HC
      cases q with
      | true =>
        have HQ5 : Hid ((∀ x ∈ lost, x ∉ keysV ll ∧ okI x) ∧ (∀ x ∈ ss ++ [(x1, x2, x3)], x ∉ keysV ll → x ∈ lost) ∧ lost.length ≤ (ss ++ [(x1, x2, x3)]).length) := Lib.hid ⟨HQ.out.1, fun x hx hn => by
          rcases List.mem_append.1 hx with r | r
          · exact HQ.out.2.1 x r hn
          · simp at r
            subst r
            have q := HQi.out
            rw [getV_isSome] at q
            exact absurd ((hasI_iff _ _).1 q) hn, by have := HQ.out.2.2; simp; omega⟩
        go_wp2_with (first
          | refine wpList_look2_mv rfl _ _ 53 rfl 46 Try.underlying53 ndV bl ll rfl HS4.out.cur (x1, x2, x3) rfl HXo.out (ndV nv0) (zeroNd _) _ HLk.out true HQi.out ?_
          | fail)
        try rw [hw5]
        clear hw5 c0 k0 k1 k2 HS4 HB5 HLk HQi HQ
        go_roundw
        case rel => exact ⟨la, L, lc, lost, _, cnt3, _, rfl, HL, HR5, HO5, HS5, HMt3, HC5, HQ5, HZ5⟩
        case measure => rw [HR5.out.left_eq, HLE.out]; exact HLT.out
      | false =>
        go_upto_region 7 with (first
          | refine wpList_look2_mv rfl _ _ 53 rfl 46 Try.underlying53 ndV bl ll rfl HS4.out.cur (x1, x2, x3) rfl HXo.out (ndV nv0) (zeroNd _) _ HLk.out false HQi.out ?_
          | fail)
        try rw [hw5]
        clear hw5 c0 k0 k1 k2 HS4 HLk
        have k0 := Bk.cell HB5.out 0
        have k1 := Bk.cell HB5.out 1
        have k2 := Bk.cell HB5.out 2
        simp only [List.getElem?_cons_zero, List.getElem?_cons_succ] at k0 k1 k2
        obtain ⟨bs, hbs⟩ : ∃ q, w5.heap.size = q := ⟨_, rfl⟩
        obtain ⟨w6, hw6⟩ : ∃ q, w5.alloc (.cells #[.int .i64 x1, .int .i64 x2, .int .i64 x3] 25) = q := ⟨_, rfl⟩
        have hb : Below w5.heap.size w5 w6 := by rw [← hw6]; exact (Below.refl _ _).alloc (Nat.le_refl _) _
        have HRd6 : Hid (IK.Rd w6 (.slice (some ⟨bs, 0, none⟩) 1 1) [(x1, x2, x3)]) := Lib.hid (by rw [← hw6]; exact IK.rd_boxAt (x1, x2, x3) _ 1 w5 bs hbs)
        have HR6 := Lib.hid (show w6.ranges (H := Value) Try.prog 25 vR bt it m D _ cnt3 by rw [← hw6]; exact HR5.out.alloc _)
        have HO6 := Lib.hid (HO5.out.below hb)
        have HS6 := Lib.hid (HS5.out.below hb)
        have HZ6 : Hid (it + 1 ≤ w6.heap.size) := Lib.hid (Nat.le_trans HZ5.out hb.size)
        have HLn6 : Hid (lost.length + [(x1, x2, x3)].length ≤ 1000000) := Lib.hid (by have h1 := HQ.out.2.2; have h2 := HC5.out; simp at h2 ⊢; omega)
        clear hb HR5 HO5 HS5 HZ5 HB5
        go_wp2_with (first
          | (refine IK.app (by kernel_rfl) (.tmp 28) (.tmp 30) rfl (it + 1) (.slice la L lc) lost rfl HO6.out (.slice (some ⟨bs, 0, none⟩) 1 1) [(x1, x2, x3)] rfl HRd6.out HLn6.out HZ6.out ?_; intro v7 w7 ho7 hb7 hg7 _; have HO7 := Lib.hid ho7; have HB7 := Lib.hid hb7; have HG7 := Lib.hid hg7; clear ho7 hb7 hg7; obtain ⟨a7, c7, hv7⟩ := HO7.out.slice; obtain ⟨T7, hT7⟩ : ∃ n, (lost ++ [(x1, x2, x3)]).length = n := ⟨_, rfl⟩; rw [hT7] at hv7; subst hv7; have HT7 := Lib.hid hT7; clear hT7)
          | fail)
        have HR7 := Lib.hid (HR6.out.kept HG7.out (row_ne_base HO6.out (by have := HZ.out; omega)) (row_ne_base HO6.out (by omega)))
        have HS7 := Lib.hid (HS6.out.row HB7.out (by have := HZ.out; omega) (by have := HZ.out; omega) (by have := HZ.out; omega))
        have HZ7 : Hid (it + 1 ≤ w7.heap.size) := Lib.hid (Nat.le_trans HZ6.out HB7.out.size)
        have HQ7 : Hid ((∀ x ∈ lost ++ [(x1, x2, x3)], x ∉ keysV ll ∧ okI x) ∧ (∀ x ∈ ss ++ [(x1, x2, x3)], x ∉ keysV ll → x ∈ lost ++ [(x1, x2, x3)]) ∧ (lost ++ [(x1, x2, x3)]).length ≤ (ss ++ [(x1, x2, x3)]).length) := Lib.hid ⟨fun x hx => by
          rcases List.mem_append.1 hx with r | r
          · exact HQ.out.1 x r
          · simp at r
            subst r
            refine ⟨fun q => ?_, HXo.out⟩
            have q2 := HQi.out
            rw [getV_isSome] at q2
            exact (hasI_false _ _).1 q2 q, fun x hx hn => by
          rcases List.mem_append.1 hx with r | r
          · exact List.mem_append_left _ (HQ.out.2.1 x r hn)
          · simp at r
            subst r
            simp, by have := HQ.out.2.2; simp; omega⟩
        clear HR6 HO6 HS6 HZ6 HB7 HG7 k0 k1 k2 HRd6 HLn6 HQ HQi hw6 hbs
        go_wp2_with fail
        go_roundw
        case rel => exact ⟨a7, T7, c7, lost ++ [(x1, x2, x3)], _, cnt3, _, rfl, HT7, HR7, HO7, HS7, HMt3, HC5, HQ7, HZ7⟩
        case measure => rw [HR7.out.left_eq, HLE.out]; exact HLT.out
end Go.Proofs.Ytlckjpjcfalfnaa
