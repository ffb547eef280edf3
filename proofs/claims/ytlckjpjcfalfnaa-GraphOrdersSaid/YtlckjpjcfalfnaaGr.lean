/-
  Graph: Reach.
-/
import Derived.Test.YtlckjpjcfalfnaaGp
import Derived.Test.YtlckjpjcfalfnaaGk
namespace Go.Proofs.Ytlckjpjcfalfnaa
open Go.RowKit Go.Sort
open Go.WideMaps
set_option linter.unusedSimpArgs false
set_option linter.unusedVariables false
set_option maxRecDepth 100000

theorem zeroNd (w : World) : (zeroValue 46).run Try.prog w = .ok (ndV nv0) w := by kernel_rfl
theorem zeroUn (w : World) : (zeroValue 71).run Try.prog w = .ok (.agg #[]) w := by kernel_rfl
theorem field_n1 (i1 i2 i3 s : Int) (v : Value) (w : World) : Sem.run Try.prog (Instr.field 46 (.agg #[.int .i64 i1, .int .i64 i2, .int .i64 i3, .int .i64 s, v]) 1) w = .ok (.agg #[.int .i64 s, v]) w := by kernel_rfl
theorem field_a1 (s : Int) (v : Value) (w : World) : Sem.run Try.prog (Instr.field 44 (.agg #[.int .i64 s, v]) 1) w = .ok v w := by kernel_rfl
theorem own_pop {P : Program} {α : Type} {K : Knd P α} {w : World} {base : Nat} {a : Option Addr} {n c : Nat} {l : List α} {x : α} (h : K.Own w base (.slice a n c) (l ++ [x])) : n = l.length + 1 ∧ K.Own w base (.slice a l.length c) l := by
  obtain ⟨h1, h2⟩ := h
  rcases h2 with ⟨_, h0⟩ | ⟨g, cap, cur, hv, hg, hh, hn, hm, hs, hx⟩
  · simp at h0
  · simp only [Value.slice.injEq] at hv
    obtain ⟨rfl, rfl, rfl⟩ := hv
    refine ⟨by simp, K.row_len l, .inr ⟨g, _, cur, rfl, hg, hh, by simp at hn; omega, hm, hs, ?_⟩⟩
    have e := congrArg (List.take (l.length * K.k)) hx
    rw [List.take_take, K.row_app, List.take_left' (K.row_len l)] at e
    rw [← e]
    congr 1
    simp [Nat.add_mul]
theorem own_cap {P : Program} {α : Type} {K : Knd P α} {w : World} {base : Nat} {a : Option Addr} {n c : Nat} {l : List α} (h : K.Own w base (.slice a n c) l) : n ≤ c ∧ n = l.length := by
  rcases h.2 with ⟨hv, h0⟩ | ⟨g, cap, cur, hv, hg, hh, hn, hm, hs, hx⟩
  · simp only [Value.slice.injEq] at hv
    omega
  · simp only [Value.slice.injEq] at hv
    omega
theorem own_lit {P : Program} {α : Type} {K : Knd P α} {w : World} {base g : Nat} (x : α) (hg : w.heap.size = g) (hb : base ≤ g) {cs : Array Value} (hc : cs = (K.enc x).toArray) : K.Own (w.alloc (.cells cs K.T)) base (.slice (some ⟨g, 0, none⟩) 1 1) [x] := by
  subst hg hc
  have e : K.row [x] = K.enc x := by simp [Knd.row]
  refine ⟨K.row_len [x], .inr ⟨w.heap.size, 1, _, rfl, hb, heap_alloc_new w _, Nat.le_refl _, by unfold maxLen; omega, ?_, ?_⟩⟩
  · simp [K.len]
  · rw [e]
    exact List.take_of_length_le (by rw [K.len]; simp)
def mlen (w : World) (b : Nat) : Nat := match w.heap[b]? with | some (.map es _) => es.size | _ => 0
def slen : Value → Nat | .slice _ n _ => n | _ => 0
theorem MV.mlen {α : Type} {enc : α → Value} {w : World} {b : Nat} {l : List (I3 × α)} (h : MV enc w b l) : mlen w b = l.length := by
  obtain ⟨D, ⟨es, ck, hb, _, _, hD⟩, _, h3, _⟩ := h.own
  unfold Go.Proofs.Ytlckjpjcfalfnaa.mlen
  rw [hb]
  subst hD
  simp only [Maps.size, length_read] at h3
  exact h3
/-- The cells that a search keeps: the nodes' map in its box, whom it begins at, and what was met. -/
structure RcS (W0 : World) (bf bb : Nat) (bw bm : Nat) (a : I3) (web : List (I3 × NV)) (met : List I3) (w : World) : Prop where
  x : Below W0.heap.size W0 w
  bx : Bk w bb 55 [.map (some bw)]
  web : MV ndV w bw web
  met : MV encU w bm (met.map fun x => (x, ()))
theorem RcS.below {W0 : World} {bf bb bw bm : Nat} {a : I3} {web : List (I3 × NV)} {met : List I3} {w w' : World} (h : RcS W0 bf bb bw bm a web met w) (hb : Below w.heap.size w w') : RcS W0 bf bb bw bm a web met w' :=
  ⟨h.x.trans (hb.mono h.x.size), h.bx.below hb, h.web.below hb, h.met.below hb⟩
theorem keys_unit (l : List I3) : keysV (l.map fun x => (x, ())) = l := by unfold keysV; rw [List.map_map]; simp [Function.comp_def]
theorem getV_unit (l : List I3) (x : I3) : (getV (l.map fun x => (x, ())) x).isSome = hasI l x := by rw [getV_isSome, keys_unit]
theorem putV_unit {l : List I3} {x : I3} (h : x ∉ l) : putV (l.map fun x => (x, ())) x () = (l ++ [x]).map fun x => (x, ()) := by
  unfold putV delV
  rw [List.map_append]
  congr 1
  rw [List.filter_eq_self]
  intro e he
  obtain ⟨y, hy, rfl⟩ := List.mem_map.1 he
  simp
  rintro rfl
  exact h hy
def RchP (f : I3 → List I3) (a : I3) (w : World) (e : Ending) (w' : World) : Prop := ∃ M : List I3, (∀ x, x ∈ M ↔ Rch f a x) ∧ M.Nodup ∧ RowP (clnI M) w e w'
set_option maxHeartbeats 8000000 in
theorem reach_any {w : World} {v : Value} {nv : List NV} (h : NRow w v nv) (hl : nv.length ≤ 100000) (hv : nv.length ≤ 1024 ∧ (nv.map (·.d.id)).Nodup) (i1 i2 i3 : Int) (hi : okI (i1, i2, i3)) (U : List I3) (hU : ∀ n ∈ nv, ∀ y ∈ n.d.dl, y ∈ U) (hUl : U.length ≤ 900) (hUo : okL U) :
    Calls Try.prog 18 #[v, .agg #[.int .i64 i1, .int .i64 i2, .int .i64 i3]] w (RchP (stepsV (webL nv)) (i1, i2, i3) w) := by
  have hmm := @run_makeMap Try.prog
  obtain ⟨w0, hw0⟩ : ∃ w0, w.alloc (.cells #[.int .i64 i1, .int .i64 i2, .int .i64 i3] 25) = w0 := ⟨_, rfl⟩
  have hb0 : Below w.heap.size w w0 := by rw [← hw0]; exact (Below.refl _ _).alloc (Nat.le_refl _) _
  have hx0 : Bk w0 w.heap.size 25 [.int .i64 i1, .int .i64 i2, .int .i64 i3] := by rw [← hw0]; exact Bk.new w _ [.int .i64 i1, .int .i64 i2, .int .i64 i3]
  have HVal := Lib.hid (gvalid_any (h.below hb0) hl)
  rw [decide_eq_true hv] at HVal
  obtain ⟨a, c, hvv, _, _⟩ := h.el
  subst hvv
  have HR := Lib.hid h
  have HB0 := Lib.hid hb0
  have HX0 := Lib.hid hx0
  have HI := Lib.hid hi
  have HUl := Lib.hid hUl
  have HUo := Lib.hid hUo
  have HU : Hid (∀ x, ∀ y ∈ stepsV (webL nv) x, y ∈ U) := Lib.hid fun x y hy => by
    unfold stepsV ndOf at hy
    cases q : getV (webL nv) x with
    | none => rw [q] at hy; cases hy
    | some n =>
      rw [q] at hy
      have q2 := (getV_some (webL_nodup nv)).1 q
      exact hU n (webL_mem nv _ q2).1 y hy
  have HOk : Hid (∀ x, (ndOf (webL nv) x).Ok w) := Lib.hid fun x => ndOf_ok (fun e he => h.ok _ (webL_mem nv e he).1) x
  obtain ⟨N, hN⟩ : ∃ N, nv.length = N := ⟨_, rfl⟩
  have hHl := hl
  rw [hN] at HR HVal hl ⊢
  have HN := Lib.hid hN
  clear h hb0 hx0 hi hU hUl hUo hN hHl hv
  go_enter Try.func18, Try.ntmps18
  go_wp2_with fail
  try rw [hw0]
  refine HVal.out.mono ?_
  rintro e w1 ⟨rfl, hb⟩
  have HB1 := Lib.hid (HB0.out.trans (hb.mono HB0.out.size))
  have HX1 := Lib.hid (Bk.below HX0.out hb)
  have HW := Lib.hid (webOf_any (w := w1) (HR.out.below HB1.out) (by have := HN.out; omega))
  clear hb hw0 HVal HB0 HX0
  go_wp2_with fail
  refine HW.out.mono ?_
  rintro e w2 ⟨bw, he, hm, hbw, hb⟩
  rw [he.out]
  have HB2 := Lib.hid (HB1.out.trans (hb.mono HB1.out.size))
  have HX2 := Lib.hid (Bk.below HX1.out hb)
  have HM2 := Lib.hid hm
  have HBw : Hid (bw < w2.heap.size) := Lib.hid hm.lt
  obtain ⟨bb, hbb⟩ : ∃ q, w2.heap.size = q := ⟨_, rfl⟩
  rw [hbb] at HBw
  obtain ⟨X, hX⟩ : ∃ X, ((w2.alloc (.cells #[.map (some bw)] 55)).alloc (.map #[] 0)).alloc (.cells #[.int .i64 i1, .int .i64 i2, .int .i64 i3] 25) = X := ⟨_, rfl⟩
  have hbX : Below w2.heap.size w2 X := by rw [← hX]; exact (((Below.refl _ _).alloc (Nat.le_refl _) _).alloc (by simp) _).alloc (by simp <;> omega) _
  have HZX : Hid (X.heap.size = bb + 1 + 1 + 1) := Lib.hid (by rw [← hX, ← hbb]; simp)
  have HWl : Hid (w.heap.size ≤ bb) := Lib.hid (by rw [← hbb]; exact HB2.out.size)
  have HRc : Hid (RcS w 0 bb bw (bb + 1) (i1, i2, i3) (webL nv) [] X) := Lib.hid (by
    refine ⟨HB2.out.trans (hbX.mono HB2.out.size), ?_, HM2.out.below hbX, ?_⟩
    · rw [← hX]; exact ((Bk.newAg hbb _ [.map (some bw)]).old _).old _
    · have q := MV.made encU (w2.alloc (.cells #[.map (some bw)] 55))
      rw [World.size_alloc, hbb] at q
      rw [← hX]
      exact q.below ((Below.refl _ _).alloc (Nat.le_refl _) _))
  have HOw : Hid (IK.Own X (bb + 1 + 1) (.slice (some ⟨bb + 1 + 1, 0, none⟩) 1 1) [(i1, i2, i3)]) := Lib.hid (by
    rw [← hX]
    exact own_lit (K := IK) (i1, i2, i3) (by simp; omega) (Nat.le_refl _) rfl)
  obtain ⟨Y, hY⟩ : ∃ Y, (w2.alloc (.cells #[.map (some bw)] 55)).alloc (.map #[] 0) = Y := ⟨_, rfl⟩
  have hyx : Bk Y w.heap.size 25 [.int .i64 i1, .int .i64 i2, .int .i64 i3] := by rw [← hY]; exact (HX2.out.old _).old _
  have hys : Y.heap.size = bb + 1 + 1 := by rw [← hY, ← hbb]; simp
  rw [hY] at hX
  have c0 := Bk.cell hyx 0
  have c1 := Bk.cell hyx 1
  have c2 := Bk.cell hyx 2
  simp only [List.getElem?_cons_zero, List.getElem?_cons_succ] at c0 c1 c2
  clear he hm hb hbX HW hyx
  go_upto_region 5 with fail
  try rw [hY]
  clear hY
  go_wp2_with fail
  try rw [hX]
  clear hX c0 c1 c2 hys HB1 HX1 HX2 HM2 HB2 hmm hbw
  go_loopw [7] (fun t wr => ∃ (ta : Option Addr) (T tc : Nat) (todo met : List I3), t = .slice ta T tc ∧ Hid (todo.length = T) ∧ Hid (IK.Own wr (bb + 1 + 1) (.slice ta T tc) todo) ∧ Hid (RcS w 0 bb bw (bb + 1) (i1, i2, i3) (webL nv) met wr) ∧ Hid (RI (stepsV (webL nv)) (i1, i2, i3) todo met none) ∧ Hid (todo.length ≤ met.length + 1 ∧ okL todo ∧ okL met)) (fun t wr => 2 * (U.length - mlen wr (bb + 1)) + slen t)
  case atStart => exact ⟨_, 1, 1, [(i1, i2, i3)], [], rfl, Lib.hid rfl, HOw, HRc, Lib.hid (RI.start _ _), Lib.hid ⟨by simp, (fun x hx => by simp at hx; subst hx; exact HI.out), (fun x hx => by cases hx)⟩⟩
  case round =>
    clear HOw HRc
    obtain ⟨ta, T, tc, todo, met, rfl, HT, HO, HS, HQ, HL⟩ := hrel
    by_cases hT0 : T = 0
    · subst hT0
      obtain rfl : todo = [] := List.eq_nil_of_length_eq_zero HT.out
      have HRn := Lib.hid (risenU_any HS.out.met (by rw [List.length_map]; have := HQ.out.few HU.out; have := HUl.out; omega))
      rw [keys_unit] at HRn
      go_wp2_with fail
      refine HRn.out.mono ?_
      rintro e w9 ⟨v9, he, ho, hb⟩
      rw [he.out]
      have HO9 := Lib.hid (ho.base HS.out.x.size)
      have HB9 := Lib.hid (HS.out.x.trans (hb.mono HS.out.x.size))
      have HQ9 := Lib.hid HQ.out.all
      have HN9 := Lib.hid HQ.out.nodup
      clear he ho hb HRn HS HQ HO HL HT
      go_wp2
      go_ret
      exact ⟨met, HQ9.out, HN9.out, v9, rfl, HO9.out, HB9.out⟩
    · obtain ⟨T1, hT1⟩ : ∃ T1, T = T1 + 1 := ⟨T - 1, by omega⟩
      have hne : todo ≠ [] := fun e => by have := HT.out; rw [e] at this; exact hT0 (by simpa using this.symm)
      obtain ⟨td, x, htd⟩ : ∃ td x, todo = td ++ [x] := ⟨todo.dropLast, todo.getLast hne, (List.dropLast_concat_getLast hne).symm⟩
      subst htd
      have htl : td.length = T1 := by have := HT.out; simp at this; omega
      obtain ⟨x1, x2, x3⟩ := x
      have hcap := (own_cap HO.out).1
      obtain ⟨-, gt, ot, hta, hgt, hct⟩ := HO.out.rd.at (by simp)
      subst hta
      have eK : IK.k = 3 := rfl
      have hc := hct T1 (by omega)
      have eg : (td ++ [(x1, x2, x3)]).getD T1 IK.d = (x1, x2, x3) := by rw [← htl]; simp [List.getD]
      rw [eg, eK] at hc
      have d0 : wr.cell? ⟨gt, ot + T1 * 3, none⟩ = some (.int .i64 x1) := hc 0 _ rfl
      have d1 : wr.cell? ⟨gt, ot + T1 * 3 + 1, none⟩ = some (.int .i64 x2) := hc 1 _ rfl
      have d2 : wr.cell? ⟨gt, ot + T1 * 3 + 2, none⟩ = some (.int .i64 x3) := hc 2 _ rfl
      have hmet := HQ.out.few HU.out
      have hT9 : T ≤ 1000 := by have := HL.out.1; have := HT.out; have := HUl.out; omega
      have hTi : (0 : Int) < (T : Int) := by omega
      have hTd : decide ((0 : Int) < (T : Int)) = true := decide_eq_true hTi
      have hTn : decide (0 < T) = true := decide_eq_true (by omega)
      have hsub : IntKind.i64.wrap ((T : Int) - 1) = (T1 : Int) := by rw [show (T : Int) - 1 = (T1 : Int) by omega, IntKind.wrap_i64]; omega
      have hlt : (T1 : Int) < (T : Int) := by omega
      have hle : (T1 : Int) ≤ (tc : Int) := by omega
      have hltd : decide ((T1 : Int) < (T : Int)) = true := decide_eq_true hlt
      have hxo : okI (x1, x2, x3) := HL.out.2.1 _ (by simp)
      obtain ⟨bx, hbx⟩ : ∃ q, wr.heap.size = q := ⟨_, rfl⟩
      obtain ⟨wf, hwf⟩ : ∃ q, wr.alloc (.cells #[.int .i64 x1, .int .i64 x2, .int .i64 x3] 25) = q := ⟨_, rfl⟩
      have hb : Below wr.heap.size wr wf := by rw [← hwf]; exact (Below.refl _ _).alloc (Nat.le_refl _) _
      have HBx : Hid (Bk wf bx 25 [.int .i64 x1, .int .i64 x2, .int .i64 x3]) := Lib.hid (by rw [← hwf]; exact Bk.newAg hbx _ [.int .i64 x1, .int .i64 x2, .int .i64 x3])
      have HO1 : Hid (IK.Own wf (bb + 1 + 1) (.slice (some ⟨gt, ot, none⟩) T1 tc) td) := Lib.hid (by have q := (own_pop HO.out).2; rw [htl] at q; exact q.below hb)
      have HS1 := Lib.hid (HS.out.below hb)
      have HQ1 := Lib.hid HQ.out.pop
      have HT1 := Lib.hid htl
      have HL1 : Hid (td.length ≤ met.length + 1 ∧ okL td ∧ okL met) := Lib.hid ⟨by have := HL.out.1; simp at this; omega, fun y hy => HL.out.2.1 y (List.mem_append_left _ hy), HL.out.2.2⟩
      have HM0 : Hid (2 * (U.length - met.length) + T1 + 1 ≤ 2 * (U.length - mlen wr (bb + 1)) + T) := Lib.hid (by have q := HS.out.met.mlen; rw [List.length_map] at q; rw [q]; omega)
      obtain ⟨M0, hM0⟩ : ∃ m, 2 * (U.length - mlen wr (bb + 1)) + T = m := ⟨_, rfl⟩
      have HXo := Lib.hid hxo
      have HM0e := Lib.hid hM0
      rw [hM0] at HM0
      clear hct hc eg eK hmet hne htl hM0 HO HS HQ HL HT hxo hb
      go_upto_region 9 with fail
      try rw [hwf]
      try rw [hbx]
      clear d0 d1 d2 hTi hTd hTn hsub hlt hle hltd hcap hT9 hwf hbx
      have b0 := Bk.cell HS1.out.bx 0
      have k0 := Bk.cell HBx.out 0
      have k1 := Bk.cell HBx.out 1
      have k2 := Bk.cell HBx.out 2
      simp only [List.getElem?_cons_zero, List.getElem?_cons_succ] at b0 k0 k1 k2
      have hstep : stepsV (webL nv) (x1, x2, x3) = (ndOf (webL nv) (x1, x2, x3)).d.dl := rfl
      have hok := HOk.out (x1, x2, x3)
      have hlk := look_ndV (webL nv) (x1, x2, x3)
      obtain ⟨nn, hnn⟩ : ∃ n, ndOf (webL nv) (x1, x2, x3) = n := ⟨_, rfl⟩
      rw [hnn] at hok hlk hstep
      clear hnn
      obtain ⟨⟨⟨j1, j2, j3⟩, sq, dl⟩, na, nc⟩ := nn
      obtain ⟨D, hD⟩ : ∃ D, dl.length = D := ⟨_, rfl⟩
      simp only [ndV, hD] at hlk
      simp only at hstep
      have HDl := Lib.hid hD
      have HSt := Lib.hid hstep
      have HLk := Lib.hid hlk
      have HRd : Hid (IK.Rd w (.slice na D nc) dl) := Lib.hid (by have q := hok.2.2; simp only at q; rwa [hD] at q)
      have HDo : Hid (okL dl) := Lib.hid hok.2.1
      have hf1 := field_n1 j1 j2 j3 sq (.slice na D nc)
      have hf2 := field_a1 sq (.slice na D nc)
      have hD63 : D ≤ 9223372036854775807 := by have q := HRd.out.len; rw [hD] at q; unfold maxLen at q; omega
      clear hstep hok hlk hD
      go_wp2_with (first
        | refine wpList_look_mv rfl _ _ 53 rfl 46 Try.underlying53 ndV bw (webL nv) rfl HS1.out.web (x1, x2, x3) rfl HXo.out (ndV nv0) (zeroNd _) _ HLk.out ?_
        | fail)
      clear hf1 hf2 b0 k0 k1 k2 HLk HBx
      go_loopw [7, 42] (fun t i wr => ∃ (ta : Option Addr) (T tc k : Nat) (todo met : List I3), t = .slice ta T tc ∧ i = .int .i64 k ∧ k ≤ D ∧ Hid (todo.length = T) ∧ Hid (IK.Own wr (bb + 1 + 1) (.slice ta T tc) todo) ∧ Hid (RcS w 0 bb bw (bb + 1) (i1, i2, i3) (webL nv) met wr) ∧ Hid (RI (stepsV (webL nv)) (i1, i2, i3) todo met (some ((x1, x2, x3), k))) ∧ Hid (todo.length ≤ met.length + 1 ∧ okL todo ∧ okL met) ∧ Hid (2 * (U.length - met.length) + T + 1 ≤ M0)) (fun _ i _ => D - (intOf i).toNat)
      case atStart => exact ⟨_, T1, tc, 0, td, met, rfl, rfl, Nat.zero_le _, HT1, HO1, HS1, HQ1, HL1, HM0⟩
      case round =>
        clear HT1 HO1 HS1 HQ1 HL1 HM0
        obtain ⟨ta, T, tc, k, todo, met, rfl, rfl, hk, HT, HO, HS, HQ, HL, HM⟩ := hrel
        by_cases hkD : k < D
        · have hk1 : (k : Int) < (D : Int) := by omega
          have hk2 : decide ((k : Int) < (D : Int)) = true := decide_eq_true hk1
          have hk3 : decide (k < D) = true := decide_eq_true hkD
          have hkl : k < dl.length := by rw [HDl.out]; exact hkD
          obtain ⟨-, gd, od, hna, hgd, hcd⟩ := HRd.out.at (by intro e; rw [e] at hkl; simp at hkl)
          subst hna
          have eK : IK.k = 3 := rfl
          have hc := hcd k hkD
          have eg : dl.getD k IK.d = dl[k] := by simp [List.getD, hkl]
          rw [eg, eK] at hc
          have hoe := HDo.out _ (List.getElem_mem hkl)
          have hki : k < (stepsV (webL nv) (x1, x2, x3)).length := by rw [HSt.out]; exact hkl
          have hxe : (stepsV (webL nv) (x1, x2, x3))[k] = dl[k] := by simp only [HSt.out]
          have HOld := Lib.hid (fun h => HQ.out.old hki h)
          have HNew := Lib.hid (fun h => HQ.out.new hki h)
          rw [hxe] at HOld HNew
          obtain ⟨ee, hee⟩ : ∃ x, dl[k] = x := ⟨_, rfl⟩
          rw [hee] at hc hoe HOld HNew
          obtain ⟨e1, e2, e3⟩ := ee
          have d0 : wr.cell? ⟨gd, od + k * 3, none⟩ = some (.int .i64 e1) := (HS.out.x.cell (p := ⟨gd, od + k * 3, none⟩) hgd).trans (hc 0 _ rfl)
          have d1 : wr.cell? ⟨gd, od + k * 3 + 1, none⟩ = some (.int .i64 e2) := (HS.out.x.cell (p := ⟨gd, od + k * 3 + 1, none⟩) hgd).trans (hc 1 _ rfl)
          have d2 : wr.cell? ⟨gd, od + k * 3 + 2, none⟩ = some (.int .i64 e3) := (HS.out.x.cell (p := ⟨gd, od + k * 3 + 2, none⟩) hgd).trans (hc 2 _ rfl)
          have HOe := Lib.hid hoe
          obtain ⟨bd, hbd⟩ : ∃ q, wr.heap.size = q := ⟨_, rfl⟩
          obtain ⟨wf, hwf⟩ : ∃ q, wr.alloc (.cells #[.int .i64 e1, .int .i64 e2, .int .i64 e3] 25) = q := ⟨_, rfl⟩
          have hb : Below wr.heap.size wr wf := by rw [← hwf]; exact (Below.refl _ _).alloc (Nat.le_refl _) _
          have HBd : Hid (Bk wf bd 25 [.int .i64 e1, .int .i64 e2, .int .i64 e3]) := Lib.hid (by rw [← hwf]; exact Bk.newAg hbd _ [.int .i64 e1, .int .i64 e2, .int .i64 e3])
          have HO' := Lib.hid (HO.out.below hb)
          have HS' := Lib.hid (HS.out.below hb)
          have hq := getV_unit met (e1, e2, e3)
          obtain ⟨q, hqm⟩ : ∃ q, hasI met (e1, e2, e3) = q := ⟨_, rfl⟩
          rw [hqm] at hq
          have HQq := Lib.hid hq
          have HQm := Lib.hid hqm
          have HZu : Hid (((getV (met.map fun x => (x, ())) (e1, e2, e3)).map encU).getD (.agg #[]) = .agg #[]) := Lib.hid (by cases getV (met.map fun x => (x, ())) (e1, e2, e3) <;> rfl)
          clear hcd hc eg eK hoe hki hxe hee hkl hb HO HS HQ hq hqm hgd
          go_upto_region 12 with fail
          try rw [hwf]
          try rw [hbd]
          clear hwf hbd d0 d1 d2
          have k0 := Bk.cell HBd.out 0
          have k1 := Bk.cell HBd.out 1
          have k2 := Bk.cell HBd.out 2
          simp only [List.getElem?_cons_zero, List.getElem?_cons_succ] at k0 k1 k2
          obtain ⟨wg, hwg⟩ : ∃ q, wf.alloc (.cells #[] 71) = q := ⟨_, rfl⟩
          have hb : Below wf.heap.size wf wg := by rw [← hwg]; exact (Below.refl _ _).alloc (Nat.le_refl _) _
          have HO2 := Lib.hid (HO'.out.below hb)
          have HS2 := Lib.hid (HS'.out.below hb)
          have HBd2 := Lib.hid (Bk.below HBd.out hb)
          clear hb HO'
          cases q with
          | true =>
            go_wp2_with (first
              | refine wpList_look2_mv rfl _ _ 70 rfl 71 Try.underlying70 encU (bb + 1) (met.map fun x => (x, ())) rfl HS'.out.met (e1, e2, e3) rfl HOe.out (.agg #[]) (zeroUn _) (.agg #[]) HZu.out true HQq.out ?_
              | fail)
            try rw [hwg]
            clear hwg k0 k1 k2 HS' HBd HBd2 HZu HQq
            go_roundw
            case rel => exact ⟨ta, T, tc, k + 1, todo, met, rfl, by go_num, by omega, HT, HO2, HS2, Lib.hid (HOld.out ((hasI_iff _ _).1 HQm.out)), HL, HM⟩
            case measure => simp [intOf]; omega
          | false =>
            have hnm : (e1, e2, e3) ∉ met := (hasI_false _ _).1 HQm.out
            have hml : met.length + 1 ≤ U.length := by have q := (HNew.out hnm).few HU.out; simpa using q
            have hU9 := HUl.out
            go_upto_region 14 with (first
              | refine wpList_look2_mv rfl _ _ 70 rfl 71 Try.underlying70 encU (bb + 1) (met.map fun x => (x, ())) rfl HS'.out.met (e1, e2, e3) rfl HOe.out (.agg #[]) (zeroUn _) (.agg #[]) HZu.out false HQq.out ?_
              | fail)
            try rw [hwg]
            clear hwg k0 k1 k2 HS' HBd HZu HQq
            have k0 := Bk.cell HBd2.out 0
            have k1 := Bk.cell HBd2.out 1
            have k2 := Bk.cell HBd2.out 2
            simp only [List.getElem?_cons_zero, List.getElem?_cons_succ] at k0 k1 k2
            have HLm : Hid ((met.map fun x => (x, ())).length < maxLen) := Lib.hid (by rw [List.length_map]; unfold maxLen; omega)
            go_upto_region 15 with (first
              | (refine wpList_put_mv rfl _ _ _ 70 rfl 71 Try.underlying70 encU (bb + 1) _ rfl HS2.out.met HLm.out (e1, e2, e3) () rfl HOe.out rfl ?_; intro w5 hm5 ht5; have hg5 := Lib.hid ht5.grown; have HM5 := Lib.hid hm5; clear hm5 ht5)
              | fail)
            have hne2 := HS2.out.met.blkNe
            have HBd5 := Lib.hid (HBd2.out.grown hg5.out (by have := hne2 _ _ _ _ HBd2.out; simpa using this))
            have HO5 := Lib.hid (HO2.out.outA hg5.out hne2)
            have HX5 : Hid (Below w.heap.size w w5) := Lib.hid (HS2.out.x.grown hg5.out HS2.out.x.size (fun k e => by cases e; have := HWl.out; omega))
            have HB5 := Lib.hid (HS2.out.bx.grown hg5.out (by simp))
            have HW5 := Lib.hid (HS2.out.web.kept hg5.out (by have := HBw.out; simp; omega))
            have HM5' : Hid (MV encU w5 (bb + 1) ((met ++ [(e1, e2, e3)]).map fun x => (x, ()))) := Lib.hid (by rw [← putV_unit hnm]; exact HM5.out)
            have HZ5 : Hid (bb + 1 + 1 ≤ w5.heap.size) := Lib.hid (by have h1 := (HS2.out.met).lt; have h2 := hg5.out.size; omega)
            clear HM5 hne2 hg5 HS2 HO2 HBd2 k0 k1 k2 HLm
            have k0 := Bk.cell HBd5.out 0
            have k1 := Bk.cell HBd5.out 1
            have k2 := Bk.cell HBd5.out 2
            simp only [List.getElem?_cons_zero, List.getElem?_cons_succ] at k0 k1 k2
            obtain ⟨bs, hbs⟩ : ∃ q, w5.heap.size = q := ⟨_, rfl⟩
            obtain ⟨w6, hw6⟩ : ∃ q, w5.alloc (.cells #[.int .i64 e1, .int .i64 e2, .int .i64 e3] 25) = q := ⟨_, rfl⟩
            have hb : Below w5.heap.size w5 w6 := by rw [← hw6]; exact (Below.refl _ _).alloc (Nat.le_refl _) _
            have HRd6 : Hid (IK.Rd w6 (.slice (some ⟨bs, 0, none⟩) 1 1) [(e1, e2, e3)]) := Lib.hid (by rw [← hw6]; exact IK.rd_boxAt (e1, e2, e3) _ 1 w5 bs hbs)
            have HO6 := Lib.hid (HO5.out.below hb)
            have HX6 := Lib.hid (HX5.out.trans (hb.mono HX5.out.size))
            have HB6 := Lib.hid (Bk.below HB5.out hb)
            have HW6 := Lib.hid (HW5.out.below hb)
            have HM6 := Lib.hid (HM5'.out.below hb)
            have HZ6 : Hid (bb + 1 + 1 ≤ w6.heap.size) := Lib.hid (Nat.le_trans HZ5.out hb.size)
            have HLn : Hid (todo.length + [(e1, e2, e3)].length ≤ 1000000) := Lib.hid (by have := HL.out.1; simp; omega)
            clear hb HO5 HX5 HB5 HW5 HM5' HZ5 HBd5
            go_wp2_with (first
              | (refine IK.app (by kernel_rfl) (.tmp 57) (.tmp 59) rfl (bb + 1 + 1) (.slice ta T tc) todo rfl HO6.out (.slice (some ⟨bs, 0, none⟩) 1 1) [(e1, e2, e3)] rfl HRd6.out HLn.out HZ6.out ?_; intro v7 w7 ho7 hb7 hg7 _; have HO7 := Lib.hid ho7; have HB7 := Lib.hid hb7; clear ho7 hb7 hg7; obtain ⟨a7, c7, hv7⟩ := HO7.out.slice; obtain ⟨T7, hT7⟩ : ∃ n, (todo ++ [(e1, e2, e3)]).length = n := ⟨_, rfl⟩; rw [hT7] at hv7; subst hv7; have HT7 := Lib.hid hT7; clear hT7)
              | fail)
            have hX7 : Below w.heap.size w w7 := HX6.out.trans (HB7.out.mono (by have := HWl.out; omega))
            have HS7 : Hid (RcS w 0 bb bw (bb + 1) (i1, i2, i3) (webL nv) (met ++ [(e1, e2, e3)]) w7) := Lib.hid ⟨hX7, HB6.out.on HB7.out (by omega), HW6.out.on HB7.out (by have := HBw.out; omega), HM6.out.on HB7.out (by omega)⟩
            have HQ7 := Lib.hid (HNew.out hnm)
            have HL7 : Hid ((todo ++ [(e1, e2, e3)]).length ≤ (met ++ [(e1, e2, e3)]).length + 1 ∧ okL (todo ++ [(e1, e2, e3)]) ∧ okL (met ++ [(e1, e2, e3)])) := Lib.hid ⟨by have := HL.out.1; simp; omega, fun y hy => by
              rcases List.mem_append.1 hy with r | r
              · exact HL.out.2.1 y r
              · simp at r; subst r; exact HOe.out, fun y hy => by
              rcases List.mem_append.1 hy with r | r
              · exact HL.out.2.2 y r
              · simp at r; subst r; exact HOe.out⟩
            have HM7 : Hid (2 * (U.length - (met ++ [(e1, e2, e3)]).length) + T7 + 1 ≤ M0) := Lib.hid (by
              have h1 := HM.out
              have h2 := HT7.out
              have h3 := HT.out
              simp only [List.length_append, List.length_cons, List.length_nil] at h2 ⊢
              omega)
            clear hX7 HX6 HB6 HW6 HM6 HO6 HB7 k0 k1 k2 HRd6 HNew HOld hnm hml hU9
            go_wp2_with fail
            go_roundw
            case rel => exact ⟨a7, T7, c7, k + 1, todo ++ [(e1, e2, e3)], met ++ [(e1, e2, e3)], rfl, by go_num, by omega, HT7, HO7, HS7, HQ7, HL7, HM7⟩
            case measure => simp [intOf]; omega
        · have hkD2 : D = k := by omega
          have hk2 : decide ((k : Int) < (D : Int)) = false := decide_eq_false (by omega)
          have hk3 : decide (k < D) = false := decide_eq_false (by omega)
          have HQd := Lib.hid (HQ.out.done (by rw [HSt.out, HDl.out]; exact hkD2.symm))
          have hml2 := HS.out.met.mlen
          rw [List.length_map] at hml2
          have HMf : Hid (2 * (U.length - mlen wr (bb + 1)) + T + 1 ≤ M0) := Lib.hid (by rw [hml2]; exact HM.out)
          clear hml2 hkD2 HM
          go_wp2_with fail
          go_roundw
          case rel => exact ⟨ta, T, tc, todo, met, rfl, HT, HO, HS, HQd, HL⟩
          case measure => show 2 * (U.length - mlen wr (bb + 1)) + T < _; have h1 := HMf.out; have h2 := HM0e.out; simp only [slen] at h2 ⊢; omega
end Go.Proofs.Ytlckjpjcfalfnaa
