/-
 Sessions, and a reply, that came in.
-/
import Derived.Test.YtodcmhmankmaoaaGreatRs1
import Derived.Test.YtodcmhmankmaoaaGreatMr
namespace Go.Proofs.YtodcmhmankmaoaaGreat
open Go.ChangeShapes Go.WideShapes Go.ChangeAt Go.RowKit Go.Joins Go.Deep
set_option linter.unusedSimpArgs false
set_option linter.unusedVariables false
set_option maxRecDepth 100000

section
variable {H : Type} {enc : TypeId × Value → H} {w : World} {base : Nat} {spare : Nat → Bool} {held : Bool}
theorem cellsSt : Tryz.prog.cellsOf 9 = 1 := by kernel_rfl
theorem cellsRp : Tryz.prog.cellsOf 36 = 4 := by kernel_rfl
theorem cellsSs : Tryz.prog.cellsOf 51 = 6 := by kernel_rfl
theorem cellsSl : Tryz.prog.cellsOf 34 = 1 := by kernel_rfl
theorem cellsIn : Tryz.prog.cellsOf 3 = 1 := by kernel_rfl
theorem cellsEr : Tryz.prog.cellsOf 28 = 1 := by kernel_rfl
theorem names_of_trod {fuel : Nat} {v : Value} {x : DataW H × List MemPlace} (h : DataW.trod enc Tryz.prog w base spare held fuel 34 [v] = some x) : ∃ (a : Option Addr) (c : Nat) (ns : List ByteArray), v = .slice a ns.length c ∧ SK.Rd w (.slice a ns.length c) ns := by
 rcases open_slice Tryz.underlying34 h with ⟨hcs, _⟩ | ⟨x, len, cap, m, n, D, Pl, hcs, _, hl, hm, hmm, _, hi⟩
 ·simp at hcs
  exact ⟨none, 0, [], hcs, Knd.Rd.nil _⟩
 ·simp at hcs
  subst hcs
  have hlm : len ≤ m := by rw [hmm]; split <;> omega
  have key : ∀ i, i < len → ∃ s : ByteArray, w.cell? (x.add i) = some (.string s) := by
   intro i hil
   obtain ⟨cs', hc, ht'⟩ := hi i (by omega)
   rw [cellsSt, Nat.mul_one] at hc
   obtain ⟨_, hcl, hat⟩ := World.cells?_some hc
   match cs', hcl, hat, ht' with
   | [c], _, hat, ht' =>
    obtain ⟨q2, e2, _, w2⟩ := DataW.trod_string Tryz.underlying9 ht'
    simp at e2
    subst e2
    have := hat 0 (by decide)
    exact ⟨q2, by simpa [Addr.add] using this⟩
  obtain ⟨ss, hss, hp⟩ := list_of (dflt := ByteArray.empty) len key
  subst hss
  refine ⟨some x, cap, ss, rfl, ⟨some x, cap, rfl, by omega, (fun q => by cases q), ?_⟩⟩
  by_cases h0 : ss.length = 0
  ·exact .inl (List.eq_nil_of_length_eq_zero h0)
  ·right
   have hc0 := hp 0 (by omega)
   obtain ⟨b, off, spot⟩ := x
   have hspot : spot = none := by simpa [Addr.add] using World.cell?_spot hc0
   subst hspot
   refine ⟨b, off, rfl, block_lt_of_cell2 hc0 (by simp [Addr.add]), fun i u hi => ?_⟩
   rw [sk_row, List.getElem?_map] at hi
   have hil : i < ss.length := by
    cases h : ss[i]? with
    | none => rw [h] at hi; cases hi
    | some y => exact (List.getElem?_eq_some_iff.1 h).1
   have p0 := hp i hil
   rw [add_at] at p0
   rw [List.getElem?_eq_getElem hil] at hi
   simp only [List.getD, List.getElem?_eq_getElem hil, Option.getD_some] at p0
   simp only [Option.map_some, Option.some.injEq] at hi
   rw [← hi]
   exact p0
theorem reply_of_trod {fuel : Nat} {cs : List Value} {x : DataW H × List MemPlace} (h : DataW.trod enc Tryz.prog w base spare held fuel 36 cs = some x) : ∃ (r : Rep) (a : Option Addr) (c : Nat), cs = [.int .i64 r.err, .string r.val, .int .i64 r.ver, .slice a r.names.length c] ∧ SK.Rd w (.slice a r.names.length c) r.names := by
 obtain ⟨ys, n', _, _, hl, hyl, hf⟩ := DataW.trod_struct Tryz.underlying36 h
 rw [cellsRp] at hl
 match cs, hl, hf with
 | [c0, c1, c2, c3], _, hf =>
  have ys0 : ∀ j, j < 4 → ∃ y, ys[j]? = some y := fun j hj => ⟨_, List.getElem?_eq_getElem (by rw [hyl]; exact hj)⟩
  obtain ⟨y0, e0⟩ := ys0 0 (by omega)
  obtain ⟨y1, e1⟩ := ys0 1 (by omega)
  obtain ⟨y2, e2⟩ := ys0 2 (by omega)
  obtain ⟨y3, e3⟩ := ys0 3 (by omega)
  have t0 := (hf 0 _ rfl).trans e0
  have t1 := (hf 1 _ rfl).trans e1
  have t2 := (hf 2 _ rfl).trans e2
  have t3 := (hf 3 _ rfl).trans e3
  simp only [List.getElem_toArray, List.getElem_cons_zero, List.getElem_cons_succ, cellsEr, cellsSt, cellsIn, cellsSl, List.drop_zero, List.drop_succ_cons, List.take_succ_cons, List.take_zero] at t0 t1 t2 t3
  obtain ⟨q0, f0, _, _⟩ := DataW.trod_int Tryz.underlying28 t0
  obtain ⟨q1, f1, _, _⟩ := DataW.trod_string Tryz.underlying9 t1
  obtain ⟨q2, f2, _, _⟩ := DataW.trod_int Tryz.underlying3 t2
  obtain ⟨a, c, ns, f3, hs⟩ := names_of_trod t3
  simp at f0 f1 f2
  subst f0 f1 f2 f3
  exact ⟨⟨q0, q1, q2, ns⟩, a, c, rfl, hs⟩
theorem rep_of_arg {r : Reach} {b0 : Nat} {v : Value} {d : DataW H} {p : List MemPlace}
  (hv : Value.okWide Tryz.prog w r b0 36 v) (h : DataW.Trod enc Tryz.prog w base spare held 36 v d p) : ∃ (R : Rep) (vc : Value), v = repV R vc ∧ SK.Rd w vc R.names := by
 obtain ⟨cs, rfl, hsz⟩ := okWide_struct Tryz.underlying36 hv
 obtain ⟨fuel, hf⟩ := h
 simp only [Value.cells] at hf
 obtain ⟨R, a, c, e, hs⟩ := reply_of_trod hf
 obtain ⟨l⟩ := cs
 simp only at e
 subst e
 exact ⟨R, .slice a R.names.length c, rfl, hs⟩
theorem sess_of_arg {r : Reach} {b0 : Nat} {v : Value} {d : DataW H} {p : List MemPlace}
  (hv : Value.okWide Tryz.prog w r b0 46 v) (h : DataW.Trod enc Tryz.prog w base spare held 46 v d p) : ∃ (a : Option Addr) (cap : Nat) (xs : List SG) (s : List S3), v = .slice a xs.length cap ∧ SF.Rd w (.slice a xs.length cap) xs ∧ MatchG w w xs s := by
 obtain ⟨a0, len0, cap0, rfl⟩ := okWide_slice Tryz.underlying46 hv
 obtain ⟨fuel, hf⟩ := h
 have hf2 : DataW.trod enc Tryz.prog w base spare held fuel 46 [.slice a0 len0 cap0] = some (d, p) := by simpa [Value.cells] using hf
 rcases open_slice Tryz.underlying46 hf2 with ⟨hcs, _⟩ | ⟨x, len, cap, m, n, D, Pl, hcs, _, hl, hm, hmm, _, hi⟩
 ·simp at hcs
  obtain ⟨rfl, rfl, rfl⟩ := hcs
  exact ⟨none, 0, [], [], rfl, Knd.Rd.nil _, MatchG.nil _ _⟩
 ·simp at hcs
  obtain ⟨rfl, rfl, rfl⟩ := hcs
  have hlm : len0 ≤ m := by rw [hmm]; split <;> omega
  have key : ∀ i, i < len0 → ∃ t : SG × S3, GOf w w t.1 t.2 ∧ ∀ j, j < 6 → w.cell? ((x.add (i * 6)).add j) = (SF.enc t.1)[j]? := by
   intro i hil
   obtain ⟨cs', hc, ht'⟩ := hi i (by omega)
   rw [cellsSs] at hc
   obtain ⟨_, hcl, hat⟩ := World.cells?_some hc
   obtain ⟨ys, n', _, _, hl', hyl, hf⟩ := DataW.trod_struct Tryz.underlying51 ht'
   match cs', hcl, hat, hf with
   | [c0, c1, c2, c3, c4, c5], _, hat, hf =>
    have ys0 : ∀ j, j < 3 → ∃ y, ys[j]? = some y := fun j hj => ⟨_, List.getElem?_eq_getElem (by rw [hyl]; exact hj)⟩
    obtain ⟨y0, e0⟩ := ys0 0 (by omega)
    obtain ⟨y1, e1⟩ := ys0 1 (by omega)
    obtain ⟨y2, e2⟩ := ys0 2 (by omega)
    have t0 := (hf 0 _ rfl).trans e0
    have t1 := (hf 1 _ rfl).trans e1
    have t2 := (hf 2 _ rfl).trans e2
    simp only [List.getElem_toArray, List.getElem_cons_zero, List.getElem_cons_succ, cellsIn, cellsRp, List.drop_zero, List.drop_succ_cons, List.take_succ_cons, List.take_zero] at t0 t1 t2
    obtain ⟨q0, f0, _, _⟩ := DataW.trod_int Tryz.underlying3 t0
    obtain ⟨q1, f1, _, _⟩ := DataW.trod_int Tryz.underlying3 t1
    obtain ⟨R, a, c, f2, hs⟩ := reply_of_trod t2
    simp at f0 f1 f2
    obtain ⟨g2, g3, g4, g5⟩ := f2
    subst f0 f1 g2 g3 g4 g5
    refine ⟨(⟨q0, q1, R.err, R.val, R.ver, a, R.names.length, c⟩, (q0, q1, R)), ⟨rfl, rfl, rfl, rfl, rfl, .inl hs⟩, fun j hj => ?_⟩
    have := hat j hj
    match j, hj with
    | 0, _ => exact this
    | 1, _ => exact this
    | 2, _ => exact this
    | 3, _ => exact this
    | 4, _ => exact this
    | 5, _ => exact this
  obtain ⟨ts, hts, hp⟩ := list_of (dflt := (sgZ, zS)) len0 key
  subst hts
  have gd : ∀ i (hi : i < ts.length), ts.getD i (sgZ, zS) = ts[i] := fun i hi => by simp [List.getD, hi]
  refine ⟨some x, cap0, ts.map (·.1), ts.map (·.2), by simp, ⟨some x, cap0, by simp, by simp; omega, (fun q => by cases q), ?_⟩, ⟨by simp, fun j hj => ?_⟩⟩
  ·by_cases h0 : ts.length = 0
   ·left
    rw [List.eq_nil_of_length_eq_zero h0]
    rfl
   ·right
    have hc0 := (hp 0 (by omega)).2 0 (by omega)
    have hc0' : ∃ u, w.cell? ((x.add (0 * 6)).add 0) = some u := ⟨_, hc0⟩
    obtain ⟨u0, hc0'⟩ := hc0'
    obtain ⟨b, off, spot⟩ := x
    have hspot : spot = none := by simpa [Addr.add] using World.cell?_spot hc0'
    subst hspot
    refine ⟨b, off, rfl, block_lt_of_cell2 hc0' (by simp [Addr.add]), row_cells (ts.map (·.1)) off (fun i hi j u hj => ?_)⟩
    have hit : i < ts.length := by simpa using hi
    have hj6 : j < 6 := by
     have := (List.getElem?_eq_some_iff.1 hj).1
     rw [SF.len] at this
     exact this
    have q := (hp i hit).2 j hj6
    rw [gd i hit, add_at, add_at] at q
    rw [show off + (i * SF.k + j) = off + i * 6 + j by show off + (i * 6 + j) = _; omega, q]
    rw [List.getElem_map] at hj
    exact hj
  ·have hjt : j < ts.length := by simpa using hj
   have q := (hp j hjt).1
   rw [gd j hjt] at q
   have e1 : (ts.map (·.1)).getD j sgZ = ts[j].1 := by simp [List.getD, hjt]
   have e2 : (ts.map (·.2)).getD j zS = ts[j].2 := by simp [List.getD, hjt]
   rw [e1, e2]
   exact q
end
end Go.Proofs.YtodcmhmankmaoaaGreat
