/-
  Texts put together: Rcf, Rcg.
-/
import Derived.Test.YtnancdbkmompdaaGreatRY
import Derived.Test.YtnancdbkmompdaaGreatRceR
import Derived.Test.YtnancdbkmompdaaGreatRQL
import Derived.Test.YtnancdbkmompdaaGreatRQM
import Derived.Test.YtnancdbkmompdaaGreatCqR
namespace Go.Proofs.YtnancdbkmompdaaGreat
open Go.RowKit Go.Sort
open Go.WideMaps
set_option linter.unusedSimpArgs false
set_option linter.unusedVariables false
set_option maxRecDepth 100000
set_option maxHeartbeats 40000000
theorem RowIs.typed {P : Program} {k : Nat} {R : Knd P (Cls k)} {α : Type} {S : Shp α} {K : Knd P α} {w : World} {v : Value} {rs : List (Cls k)} {l : List α} (h : RowIs R S w v rs l) (hR : R.enc = Cls.cs) (hS : ∀ w cs x, S.is w cs x → cs = K.enc x) : K.Rd w v l := by
 have e : R.row rs = K.row l := by
  unfold Knd.row
  rw [hR, List.flatMap_def, List.flatMap_def]
  congr 1
  refine List.ext_getElem (by simp [h.len]) fun j h1 h2 => ?_
  simp only [List.getElem_map]
  exact hS _ _ _ (h.at' j (by simpa using h1) (by simpa using h2))
 obtain ⟨a, c, hv, h1, h2, h3⟩ := h.rd
 rw [h.len] at hv h1
 refine ⟨a, c, hv, h1, h2, ?_⟩
 rw [e] at h3
 rcases h3 with h3 | h3
 ·left
  have := h.len
  rw [h3] at this
  exact List.eq_nil_of_length_eq_zero this.symm
 ·exact .inr h3
theorem irow_of {w : World} {a : Option Addr} {n c : Nat} {rs : List (Cls 1)} {l : List Int} (h : RowIs KN numS w (.slice a n c) rs l) (hl : l.length ≤ 1000000) : Cv.IRow w a l ∧ n = l.length := by
 have hn : n = rs.length := by obtain ⟨_, _, e⟩ := h.rd.slice; simp only [Value.slice.injEq] at e; exact e.2.1
 refine ⟨⟨by omega, ?_⟩, by rw [hn, h.len]⟩
 by_cases q : l = []
 ·exact .inl q
 ·right
  have hp : 0 < l.length := List.length_pos_iff.2 q
  obtain ⟨_, _, g, off, cs, ha, hg, _, _⟩ := h.el rfl 0 (by rw [hn, h.len]; exact hp)
  refine ⟨g, off, ha, hg, fun i hi => ?_⟩
  obtain ⟨_, hli, g2, off2, cs2, ha2, _, hc2, hcel⟩ := h.el rfl i (by rw [hn, h.len]; exact hi)
  rw [ha] at ha2
  simp only [Option.some.injEq, Addr.mk.injEq, and_true] at ha2
  obtain ⟨rfl, rfl⟩ := ha2
  have hc2 : cs2 = [.int .i64 l[i]] := hc2
  subst hc2
  have := hcel 0 _ rfl
  simpa [KN, rawK, List.getD, hi] using this
theorem cvalid (n0 : Int) (a : Option Addr) (m c : Nat) (rs : List (Cls 1)) (l : List Int) (w : World) (h : RowIs KN numS w (.slice a m c) rs l) (hl : l.length ≤ 1000000) : Calls Tryz.prog 43 #[.agg #[.int .i64 n0, .slice a m c]] w fun e w' => e = .returned (.bool (Cv.valB n0 l)) ∧ Below w.heap.size w w' := by
 obtain ⟨h1, rfl⟩ := irow_of h hl
 exact Cv.valid_any n0 a c l w h1
/-- A value is an instance whose row is a state's. -/
def InO (w : World) (v : Value) (y : Ins) : Prop := ∃ u, v = .agg (inV y u).toArray ∧ y.2.2.2.1.2.2.2.1.size ≤ maxLen ∧ y.2.2.2.1.2.2.2.2.1.size ≤ maxLen ∧ RowO KI idS w u y.2.2.2.2.2
theorem InO.keepT {w w' : World} {v : Value} {y : Ins} (h : InO w v y) (hk : KeepT w w') : InO w' v y := by
 obtain ⟨u, e, h1, h2, h3⟩ := h
 exact ⟨u, e, h1, h2, h3.keepT hk (.inr (.inr (.inr (.inr rfl)))) (fun _ _ q => q)⟩
structure OfIs (w : World) (E : List (I3 × Value)) (M : List (I3 × Ins)) : Prop where
 keys : keysV E = keysV M
 nd : (keysV E).Nodup
 at' : ∀ id v, getV E id = some v → ∃ y, getV M id = some y ∧ InO w v y
theorem OfIs.keepT {w w' : World} {E : List (I3 × Value)} {M : List (I3 × Ins)} (h : OfIs w E M) (hk : KeepT w w') : OfIs w' E M := ⟨h.keys, h.nd, fun id v e => by obtain ⟨y, h1, h2⟩ := h.at' id v e; exact ⟨y, h1, h2.keepT hk⟩⟩
theorem OfIs.nil (w : World) : OfIs w [] [] := ⟨rfl, by simp, fun id v e => by cases e⟩
/-- A state: its cells. -/
structure StIs (w : World) (cs : Array Value) (b : Nat) (x : Snp) (L : List I3) (M : List (I3 × Ins)) : Prop where
 cells : ∃ v1 v2 v3 v4, cs = #[.int .i64 x.1.1, v1, v2, v3, v4, .map (some b)] ∧ SnO w v1 v2 v3 x ∧ IK.Own w 0 v4 L
 okl : ∀ id ∈ L, okI id
 mv : ∃ E, MV (fun v => v) w b E ∧ OfIs w E M
theorem ik_keepT {w w' : World} {v : Value} {l : List I3} (h : IK.Own w 0 v l) (hk : KeepT w w') : IK.Own w' 0 v l := h.keepB fun i hi => by
 obtain ⟨_, cs, fr, q⟩ := h.blk i hi
 exact hk i cs IK.T fr q (.inr (.inr (.inr (.inr rfl))))
theorem StIs.keepT {w w' : World} {cs : Array Value} {b : Nat} {x : Snp} {L : List I3} {M : List (I3 × Ins)} (h : StIs w cs b x L M) (hk : KeepT w w') (hb : w'.heap[b]? = w.heap[b]?) : StIs w' cs b x L M := by
 obtain ⟨v1, v2, v3, v4, e, h1, h2⟩ := h.cells
 obtain ⟨E, k1, k2⟩ := h.mv
 exact ⟨⟨v1, v2, v3, v4, e, h1.keepT hk, ik_keepT h2 hk⟩, h.okl, E, k1.same hb, k2.keepT hk⟩
theorem StIs.lt {w : World} {cs : Array Value} {b : Nat} {x : Snp} {L : List I3} {M : List (I3 × Ins)} (h : StIs w cs b x L M) : b < w.heap.size := by
 obtain ⟨E, k1, k2⟩ := h.mv
 exact k1.lt
theorem StIs.on {w w' : World} {cs : Array Value} {b : Nat} {x : Snp} {L : List I3} {M : List (I3 × Ins)} (h : StIs w cs b x L M) (hb : Below w.heap.size w w') : StIs w' cs b x L M := h.keepT (KeepT.of_below hb) (hb.block b h.lt)
def BgP (x : Snp) (w : World) (e : Ending) (w' : World) : Prop := ∃ (cs : Array Value) (b : Nat), Hid (e = .returned (.agg cs)) ∧ (∀ w'' : World, (∀ k, w.heap.size ≤ k → k < w'.heap.size → w''.heap[k]? = w'.heap[k]?) → StIs w'' cs b x [] []) ∧ w.heap.size ≤ b ∧ Below w.heap.size w w'
theorem begun_any (x : Snp) (ca : Array Value) (w : World) (h : snS.is w ca.toList x) (hN : Sn6 x) : Calls Tryz.prog 19 #[.agg ca] w (BgP x w) := by
 obtain ⟨a1, m1, c1, rs1, a2, m2, c2, rs2, a3, m3, c3, rs3, hcs, k1, k2, k3⟩ := sn_is h
 obtain ⟨⟨n0, l1⟩, l2, l3⟩ := x
 obtain rfl : ca = #[.int .i64 n0, .slice a1 m1 c1, .slice a2 m2 c2, .slice a3 m3 c3] := by
  cases ca
  simpa [snV] using hcs
 obtain ⟨X, hX⟩ : ∃ X, (w.alloc (.cells #[.int .i64 n0, .slice a1 m1 c1, .slice a2 m2 c2, .slice a3 m3 c3] 28)).alloc (.cells #[.int .i64 0, .slice none 0 0, .slice none 0 0, .slice none 0 0, .slice none 0 0, .map none] 37) = X := ⟨_, rfl⟩
 have hB : Below w.heap.size w X := by rw [← hX]; exact ((Below.refl _ _).alloc (Nat.le_refl _) _).alloc (by simp) _
 have hb1 : Bk X w.heap.size 28 [.int .i64 n0, .slice a1 m1 c1, .slice a2 m2 c2, .slice a3 m3 c3] := by rw [← hX]; exact (Bk.new w _ _).old _
 have hb2 : Bk X (w.heap.size + 1) 37 [.int .i64 0, .slice none 0 0, .slice none 0 0, .slice none 0 0, .slice none 0 0, .map none] := by rw [← hX]; have := Bk.new (w.alloc (.cells #[.int .i64 n0, .slice a1 m1 c1, .slice a2 m2 c2, .slice a3 m3 c3] 28)) 37 [.int .i64 0, .slice none 0 0, .slice none 0 0, .slice none 0 0, .slice none 0 0, .map none]; rwa [World.size_alloc] at this
 have HB := Hd hB
 have H1 := Hd hb1
 have H2 := Hd hb2
 have HC := Hd (csnap ((n0, l1), l2, l3) #[.int .i64 n0, .slice a1 m1 c1, .slice a2 m2 c2, .slice a3 m3 c3] X (snS.keep h hB) hN)
 have HXi : Hid ((Tryz.prog.info? 28).map (·.size) = some 4) := Hd (by kernel_rfl)
 have HXt : Hid ((Tryz.prog.info? 37).map (·.size) = some 6) := Hd (by kernel_rfl)
 clear h hN hcs k1 k2 k3 hB hb1 hb2
 have hmm := @run_makeMap Tryz.prog
 go_enter Tryz.func19, Tryz.ntmps19
 go_wp2_with (refine wpList_load_row rfl _ _ rfl w.heap.size rfl 28 #[.int .i64 n0, .slice a1 m1 c1, .slice a2 m2 c2, .slice a3 m3 c3] (0, 0) _ H1.out Tryz.underlying28 rfl HXi.out ?_)
 refine HC.out.mono ?_
 rintro e w1 ⟨u1, u2, u3, he, hs, hb⟩
 obtain ⟨b1, d1, b2, d2, b3, d3, e1, e2, e3⟩ := (hs w1 (fun _ _ _ => rfl)).slices
 obtain ⟨n1, hn1⟩ : ∃ q, l1.length = q := ⟨_, rfl⟩
 obtain ⟨n2, hn2⟩ : ∃ q, l2.length = q := ⟨_, rfl⟩
 obtain ⟨n3, hn3⟩ : ∃ q, l3.length = q := ⟨_, rfl⟩
 simp only [hn1] at e1
 simp only [hn2] at e2
 simp only [hn3] at e3
 subst e1 e2 e3
 rw [he.out]
 have H2b := Hd ((H2.out.below hb).below ((Below.refl _ _).alloc (Nat.le_refl _) (.map #[] 0)))
 have HB1 := Hd ((HB.out.trans (hb.mono HB.out.size)).alloc (Nat.le_trans HB.out.size hb.size) (.map #[] 0))
 have HSz := Hd (show w.heap.size + 1 < w1.heap.size from (H2.out.below hb).lt)
 have HS := Hd hs
 have HXz := Hd (show X.heap.size = w.heap.size + 2 by rw [← hX]; simp)
 clear he hs hb hn1 hn2 hn3 hX
 go_wp2_with (refine wpList_store_row rfl 37 _ _ rfl (w.heap.size + 1) rfl #[.int .i64 n0, .slice b1 n1 d1, .slice b2 n2 d2, .slice b3 n3 d3, .slice none 0 0, .map (some w1.heap.size)] rfl #[.int .i64 0, .slice none 0 0, .slice none 0 0, .slice none 0 0, .slice none 0 0, .map none] 37 H2b.out HXt.out rfl (by rw [← Array.all_toList]; rfl) ?_)
 have hfar : ∀ k, k ≠ w.heap.size + 1 → ((w1.alloc (.map #[] 0)).setRow (w.heap.size + 1) #[.int .i64 n0, .slice b1 n1 d1, .slice b2 n2 d2, .slice b3 n3 d3, .slice none 0 0, .map (some w1.heap.size)]).heap[k]? = (w1.alloc (.map #[] 0)).heap[k]? := fun k hk => (sx_setRow _ (w.heap.size + 1) #[.int .i64 n0, .slice b1 n1 d1, .slice b2 n2 d2, .slice b3 n3 d3, .slice none 0 0, .map (some w1.heap.size)]).block k hk
 have hlv := run_loadVar_row ((w1.alloc (.map #[] 0)).setRow (w.heap.size + 1) #[.int .i64 n0, .slice b1 n1 d1, .slice b2 n2 d2, .slice b3 n3 d3, .slice none 0 0, .map (some w1.heap.size)]) _ _ _ #[.int .i64 n0, .slice b1 n1 d1, .slice b2 n2 d2, .slice b3 n3 d3, .slice none 0 0, .map (some w1.heap.size)] (0, 0) _ (heap_setRow_same _ _ #[.int .i64 0, .slice none 0 0, .slice none 0 0, .slice none 0 0, .slice none 0 0, .map none] #[.int .i64 n0, .slice b1 n1 d1, .slice b2 n2 d2, .slice b3 n3 d3, .slice none 0 0, .map (some w1.heap.size)] _ H2b.out) Tryz.underlying37 rfl HXt.out
 have hBf := below_setRow HB1.out (show w.heap.size ≤ w.heap.size + 1 by omega) #[.int .i64 n0, .slice b1 n1 d1, .slice b2 n2 d2, .slice b3 n3 d3, .slice none 0 0, .map (some w1.heap.size)]
 have hsz : ((w1.alloc (.map #[] 0)).setRow (w.heap.size + 1) #[.int .i64 n0, .slice b1 n1 d1, .slice b2 n2 d2, .slice b3 n3 d3, .slice none 0 0, .map (some w1.heap.size)]).heap.size = w1.heap.size + 1 := by rw [(sx_setRow _ (w.heap.size + 1) #[.int .i64 n0, .slice b1 n1 d1, .slice b2 n2 d2, .slice b3 n3 d3, .slice none 0 0, .map (some w1.heap.size)]).size]; simp
 have hSt : ∀ w'' : World, (∀ k, w.heap.size ≤ k → k < ((w1.alloc (.map #[] 0)).setRow (w.heap.size + 1) #[.int .i64 n0, .slice b1 n1 d1, .slice b2 n2 d2, .slice b3 n3 d3, .slice none 0 0, .map (some w1.heap.size)]).heap.size → w''.heap[k]? = ((w1.alloc (.map #[] 0)).setRow (w.heap.size + 1) #[.int .i64 n0, .slice b1 n1 d1, .slice b2 n2 d2, .slice b3 n3 d3, .slice none 0 0, .map (some w1.heap.size)]).heap[k]?) → StIs w'' #[.int .i64 n0, .slice b1 n1 d1, .slice b2 n2 d2, .slice b3 n3 d3, .slice none 0 0, .map (some w1.heap.size)] w1.heap.size ((n0, l1), l2, l3) [] [] := fun w'' hw => by
  have hsn := HS.out w'' (fun k h1 h2 => (hw k (by have := HXz.out; omega) (by omega)).trans ((hfar k (by have := HXz.out; omega)).trans (Below.heap_alloc _ _ _ h2)))
  refine ⟨⟨_, _, _, _, rfl, hsn, Knd.Own.nil _ _⟩, fun id h => (by cases h), [], ?_, OfIs.nil _⟩
  refine (MV.made (fun v => v) w1).same ?_
  rw [hw w1.heap.size (by have := HSz.out; omega) (by omega), hfar _ (by have := HSz.out; omega)]
 exact bodyPost_ret (v := .agg #[.int .i64 n0, .slice b1 n1 d1, .slice b2 n2 d2, .slice b3 n3 d3, .slice none 0 0, .map (some w1.heap.size)]) (by simp [results, Tryz.results19, asAddr, Act.put, hlv]) rfl ⟨#[.int .i64 n0, .slice b1 n1 d1, .slice b2 n2 d2, .slice b3 n3 d3, .slice none 0 0, .map (some w1.heap.size)], w1.heap.size, rfl, hSt, by have := HSz.out; omega, hBf⟩
/-- What a record makes of what is known. -/
def wth (x : Snp) (L : List I3) (M : List (I3 × Ins)) (r : Bool × Id3 × Ins × Snp) : Snp × List I3 × List (I3 × Ins) :=
 if r.1 = true ∧ Cv.valB r.2.2.2.1.1 r.2.2.2.1.2 = true ∧ x.1.1 < r.2.2.2.1.1 then (r.2.2.2, [], [])
 else if r.1 = true ∨ r.2.1.1 ≠ x.1.1 then (x, L, M)
 else (x, if hasI L r.2.1 then L else uniI L [r.2.1], putV M r.2.1 r.2.2.1)
/-- Nothing but the map's block has turned. -/
structure Fb (b : Nat) (w w' : World) : Prop where
 os : w'.os = w.os
 tape : w'.tape = w.tape
 output : w'.output = w.output
 size : w.heap.size ≤ w'.heap.size
 block : ∀ k, k < w.heap.size → k ≠ b → w'.heap[k]? = w.heap[k]?
theorem Fb.of_below {b : Nat} {w w' : World} (h : Below w.heap.size w w') : Fb b w w' := ⟨h.os, h.tape, h.output, h.size, fun k hk _ => h.block k hk⟩
def WiP (y : Snp × List I3 × List (I3 × Ins)) (b : Nat) (w : World) (e : Ending) (w' : World) : Prop := ∃ (cs : Array Value) (b' : Nat), Hid (e = .returned (.agg cs)) ∧ StIs w' cs b' y.1 y.2.1 y.2.2 ∧ (b' = b ∨ w.heap.size ≤ b') ∧ Fb b w w'
theorem stT_state : ¬ StT 37 := by unfold StT; decide
theorem with_b (x : Snp) (L : List I3) (M : List (I3 × Ins)) (cs : Array Value) (b : Nat) (vr : Value) (r : Bool × Id3 × Ins × Snp) (w : World) (h : StIs w cs b x L M) (hR : RecIs w vr r) (h0 : r.1 = false) (h1 : r.2.1.1 ≠ x.1.1) : Calls Tryz.prog 21 #[.agg cs, vr] w (WiP (x, L, M) b w) := by
 obtain ⟨v1, v2, v3, v4, hcs, hsn, hik⟩ := h.cells
 obtain ⟨a1, c1, a2, c2, a3, c3, e1, e2, e3⟩ := hsn.slices
 obtain ⟨a4, c4, e4⟩ := hik.slice
 obtain ⟨cr, rfl, hr⟩ := hR
 obtain ⟨a18, m18, p18, rs18, a20, m20, p20, rs20, a21, m21, p21, rs21, a22, m22, p22, rs22, hcr, hs12, hs13, hr18, hr20, hr21, hr22⟩ := rc_is hr
 obtain ⟨n0, ⟨n1, n2, n3⟩, ⟨n4, ⟨n5, n6⟩, ⟨n7, n8⟩, ⟨n9, n10, n11, n12, n13, n14, n15, n16⟩, n17, l18⟩, ⟨n19, l20⟩, l21, l22⟩ := r
 obtain ⟨⟨x0, q1⟩, q2, q3⟩ := x
 obtain rfl : cr = #[.bool n0, .int .i64 n1, .int .i64 n2, .int .i64 n3, .int .i64 n4, .int .i64 n5, .int .i64 n6, .int .i64 n7, .int .i64 n8, .int .i64 n9, .int .i64 n10, .int .i64 n11, .string n12, .string n13, .int .i64 n14, .int .i64 n15, .int .i64 n16, .int .i64 n17, .slice a18 m18 p18, .int .i64 n19, .slice a20 m20 p20, .slice a21 m21 p21, .slice a22 m22 p22] := by
  cases cr
  simpa [idE, inV, snV] using hcr
 obtain ⟨k1, hk1⟩ : ∃ q, q1.length = q := ⟨_, rfl⟩
 obtain ⟨k2, hk2⟩ : ∃ q, q2.length = q := ⟨_, rfl⟩
 obtain ⟨k3, hk3⟩ : ∃ q, q3.length = q := ⟨_, rfl⟩
 obtain ⟨k4, hk4⟩ : ∃ q, L.length = q := ⟨_, rfl⟩
 simp only [hk1] at e1
 simp only [hk2] at e2
 simp only [hk3] at e3
 rw [hk4] at e4
 subst e1 e2 e3 e4 hcs
 obtain ⟨X, hX⟩ : ∃ X, ((w.alloc (.cells #[.int .i64 x0, .slice a1 k1 c1, .slice a2 k2 c2, .slice a3 k3 c3, .slice a4 k4 c4, .map (some b)] 37)).alloc (.cells #[.bool n0, .int .i64 n1, .int .i64 n2, .int .i64 n3, .int .i64 n4, .int .i64 n5, .int .i64 n6, .int .i64 n7, .int .i64 n8, .int .i64 n9, .int .i64 n10, .int .i64 n11, .string n12, .string n13, .int .i64 n14, .int .i64 n15, .int .i64 n16, .int .i64 n17, .slice a18 m18 p18, .int .i64 n19, .slice a20 m20 p20, .slice a21 m21 p21, .slice a22 m22 p22] 61)).alloc (.cells #[.int .i64 0, .slice none 0 0, .slice none 0 0, .slice none 0 0, .slice none 0 0, .map none] 37) = X := ⟨_, rfl⟩
 have hB : Below w.heap.size w X := by rw [← hX]; exact (((Below.refl _ _).alloc (Nat.le_refl _) _).alloc (by simp) _).alloc (by simp; omega) _
 have hb1 : Bk X w.heap.size 37 [.int .i64 x0, .slice a1 k1 c1, .slice a2 k2 c2, .slice a3 k3 c3, .slice a4 k4 c4, .map (some b)] := by rw [← hX]; exact ((Bk.new w _ _).old _).old _
 have hb2 : Bk X (w.heap.size + 1) 61 [.bool n0, .int .i64 n1, .int .i64 n2, .int .i64 n3, .int .i64 n4, .int .i64 n5, .int .i64 n6, .int .i64 n7, .int .i64 n8, .int .i64 n9, .int .i64 n10, .int .i64 n11, .string n12, .string n13, .int .i64 n14, .int .i64 n15, .int .i64 n16, .int .i64 n17, .slice a18 m18 p18, .int .i64 n19, .slice a20 m20 p20, .slice a21 m21 p21, .slice a22 m22 p22] := by rw [← hX]; have := (Bk.new (w.alloc (.cells #[.int .i64 x0, .slice a1 k1 c1, .slice a2 k2 c2, .slice a3 k3 c3, .slice a4 k4 c4, .map (some b)] 37)) 61 [.bool n0, .int .i64 n1, .int .i64 n2, .int .i64 n3, .int .i64 n4, .int .i64 n5, .int .i64 n6, .int .i64 n7, .int .i64 n8, .int .i64 n9, .int .i64 n10, .int .i64 n11, .string n12, .string n13, .int .i64 n14, .int .i64 n15, .int .i64 n16, .int .i64 n17, .slice a18 m18 p18, .int .i64 n19, .slice a20 m20 p20, .slice a21 m21 p21, .slice a22 m22 p22]).old (.cells #[.int .i64 0, .slice none 0 0, .slice none 0 0, .slice none 0 0, .slice none 0 0, .map none] 37); rwa [World.size_alloc] at this
 have hb3 : Bk X (w.heap.size + 1 + 1) 37 [.int .i64 0, .slice none 0 0, .slice none 0 0, .slice none 0 0, .slice none 0 0, .map none] := by rw [← hX]; have := Bk.new ((w.alloc (.cells #[.int .i64 x0, .slice a1 k1 c1, .slice a2 k2 c2, .slice a3 k3 c3, .slice a4 k4 c4, .map (some b)] 37)).alloc (.cells #[.bool n0, .int .i64 n1, .int .i64 n2, .int .i64 n3, .int .i64 n4, .int .i64 n5, .int .i64 n6, .int .i64 n7, .int .i64 n8, .int .i64 n9, .int .i64 n10, .int .i64 n11, .string n12, .string n13, .int .i64 n14, .int .i64 n15, .int .i64 n16, .int .i64 n17, .slice a18 m18 p18, .int .i64 n19, .slice a20 m20 p20, .slice a21 m21 p21, .slice a22 m22 p22] 61)) 37 [.int .i64 0, .slice none 0 0, .slice none 0 0, .slice none 0 0, .slice none 0 0, .map none]; simpa using this
 have HSt := Hd (h.on hB)
 have HB := Hd hB
 have H1 := Hd hb1
 have H2 := Hd hb2
 have H3 := Hd hb3
 have HXt : Hid ((Tryz.prog.info? 37).map (·.size) = some 6) := Hd (by kernel_rfl)
 have HSz := Hd (show w.heap.size + 1 + 1 < X.heap.size from hb3.lt)
 have HBs := Hd (show b < w.heap.size from h.lt)
 have h0 : n0 = false := h0
 subst h0
 have h1 : n1 ≠ x0 := h1
 have d1 : (n1 != x0) = true := by simpa using h1
 have d2 : (n1 == x0) = false := by simpa using h1
 have y0 := hb1.cell 0
 simp only [gB] at y0
 have z0 := hb2.cell 0
 have z1 := hb2.cell 1
 simp only [gB] at z0 z1
 have H1b := H1
 have H3b := H3
 clear h hr hsn hik hcr hs12 hs13 hr18 hr20 hr21 hr22 hk1 hk2 hk3 hk4 hB hb1 hb2 hb3 h1
 go_enter Tryz.func21, Tryz.ntmps21
 go_wp2_with (first | (refine wpList_load_row rfl _ _ rfl w.heap.size rfl 37 #[.int .i64 x0, .slice a1 k1 c1, .slice a2 k2 c2, .slice a3 k3 c3, .slice a4 k4 c4, .map (some b)] (0, 0) _ H1b.out Tryz.underlying37 rfl HXt.out ?_) | (refine wpList_store_row rfl 37 _ _ rfl (w.heap.size + 1 + 1) rfl #[.int .i64 x0, .slice a1 k1 c1, .slice a2 k2 c2, .slice a3 k3 c3, .slice a4 k4 c4, .map (some b)] rfl #[.int .i64 0, .slice none 0 0, .slice none 0 0, .slice none 0 0, .slice none 0 0, .map none] 37 H3b.out HXt.out rfl (by rw [← Array.all_toList]; rfl) ?_))
 have hlv := run_loadVar_row (X.setRow (w.heap.size + 1 + 1) #[.int .i64 x0, .slice a1 k1 c1, .slice a2 k2 c2, .slice a3 k3 c3, .slice a4 k4 c4, .map (some b)]) _ _ _ #[.int .i64 x0, .slice a1 k1 c1, .slice a2 k2 c2, .slice a3 k3 c3, .slice a4 k4 c4, .map (some b)] (0, 0) _ (heap_setRow_same _ _ #[.int .i64 0, .slice none 0 0, .slice none 0 0, .slice none 0 0, .slice none 0 0, .map none] #[.int .i64 x0, .slice a1 k1 c1, .slice a2 k2 c2, .slice a3 k3 c3, .slice a4 k4 c4, .map (some b)] _ H3b.out) Tryz.underlying37 rfl HXt.out
 have hBf := below_setRow HB.out (show w.heap.size ≤ w.heap.size + 1 + 1 by omega) #[.int .i64 x0, .slice a1 k1 c1, .slice a2 k2 c2, .slice a3 k3 c3, .slice a4 k4 c4, .map (some b)]
 have hStF := HSt.out.keepT (KeepT.setRow H3b.out stT_state #[.int .i64 x0, .slice a1 k1 c1, .slice a2 k2 c2, .slice a3 k3 c3, .slice a4 k4 c4, .map (some b)]) ((sx_setRow _ (w.heap.size + 1 + 1) #[.int .i64 x0, .slice a1 k1 c1, .slice a2 k2 c2, .slice a3 k3 c3, .slice a4 k4 c4, .map (some b)]).block b (by have := HBs.out; omega))
 exact bodyPost_ret (v := .agg #[.int .i64 x0, .slice a1 k1 c1, .slice a2 k2 c2, .slice a3 k3 c3, .slice a4 k4 c4, .map (some b)]) (by simp [results, Tryz.results21, asAddr, Act.put, hlv]) rfl ⟨#[.int .i64 x0, .slice a1 k1 c1, .slice a2 k2 c2, .slice a3 k3 c3, .slice a4 k4 c4, .map (some b)], b, rfl, hStF, .inl rfl, Fb.of_below hBf⟩
theorem with_c (x : Snp) (L : List I3) (M : List (I3 × Ins)) (cs : Array Value) (b : Nat) (vr : Value) (r : Bool × Id3 × Ins × Snp) (w : World) (h : StIs w cs b x L M) (hR : RecIs w vr r) (h0 : r.1 = true) (h1 : ¬ (Cv.valB r.2.2.2.1.1 r.2.2.2.1.2 = true ∧ x.1.1 < r.2.2.2.1.1)) (hN : r.2.2.2.1.2.length ≤ 1000000) : Calls Tryz.prog 21 #[.agg cs, vr] w (WiP (x, L, M) b w) := by
 obtain ⟨v1, v2, v3, v4, hcs, hsn, hik⟩ := h.cells
 obtain ⟨a1, c1, a2, c2, a3, c3, e1, e2, e3⟩ := hsn.slices
 obtain ⟨a4, c4, e4⟩ := hik.slice
 obtain ⟨cr, rfl, hr⟩ := hR
 obtain ⟨a18, m18, p18, rs18, a20, m20, p20, rs20, a21, m21, p21, rs21, a22, m22, p22, rs22, hcr, hs12, hs13, hr18, hr20, hr21, hr22⟩ := rc_is hr
 obtain ⟨n0, ⟨n1, n2, n3⟩, ⟨n4, ⟨n5, n6⟩, ⟨n7, n8⟩, ⟨n9, n10, n11, n12, n13, n14, n15, n16⟩, n17, l18⟩, ⟨n19, l20⟩, l21, l22⟩ := r
 obtain ⟨⟨x0, q1⟩, q2, q3⟩ := x
 obtain rfl : cr = #[.bool n0, .int .i64 n1, .int .i64 n2, .int .i64 n3, .int .i64 n4, .int .i64 n5, .int .i64 n6, .int .i64 n7, .int .i64 n8, .int .i64 n9, .int .i64 n10, .int .i64 n11, .string n12, .string n13, .int .i64 n14, .int .i64 n15, .int .i64 n16, .int .i64 n17, .slice a18 m18 p18, .int .i64 n19, .slice a20 m20 p20, .slice a21 m21 p21, .slice a22 m22 p22] := by
  cases cr
  simpa [idE, inV, snV] using hcr
 obtain ⟨k1, hk1⟩ : ∃ q, q1.length = q := ⟨_, rfl⟩
 obtain ⟨k2, hk2⟩ : ∃ q, q2.length = q := ⟨_, rfl⟩
 obtain ⟨k3, hk3⟩ : ∃ q, q3.length = q := ⟨_, rfl⟩
 obtain ⟨k4, hk4⟩ : ∃ q, L.length = q := ⟨_, rfl⟩
 simp only [hk1] at e1
 simp only [hk2] at e2
 simp only [hk3] at e3
 rw [hk4] at e4
 subst e1 e2 e3 e4 hcs
 obtain ⟨X, hX⟩ : ∃ X, ((w.alloc (.cells #[.int .i64 x0, .slice a1 k1 c1, .slice a2 k2 c2, .slice a3 k3 c3, .slice a4 k4 c4, .map (some b)] 37)).alloc (.cells #[.bool n0, .int .i64 n1, .int .i64 n2, .int .i64 n3, .int .i64 n4, .int .i64 n5, .int .i64 n6, .int .i64 n7, .int .i64 n8, .int .i64 n9, .int .i64 n10, .int .i64 n11, .string n12, .string n13, .int .i64 n14, .int .i64 n15, .int .i64 n16, .int .i64 n17, .slice a18 m18 p18, .int .i64 n19, .slice a20 m20 p20, .slice a21 m21 p21, .slice a22 m22 p22] 61)).alloc (.cells #[.int .i64 0, .slice none 0 0, .slice none 0 0, .slice none 0 0, .slice none 0 0, .map none] 37) = X := ⟨_, rfl⟩
 have hB : Below w.heap.size w X := by rw [← hX]; exact (((Below.refl _ _).alloc (Nat.le_refl _) _).alloc (by simp) _).alloc (by simp; omega) _
 have hb1 : Bk X w.heap.size 37 [.int .i64 x0, .slice a1 k1 c1, .slice a2 k2 c2, .slice a3 k3 c3, .slice a4 k4 c4, .map (some b)] := by rw [← hX]; exact ((Bk.new w _ _).old _).old _
 have hb2 : Bk X (w.heap.size + 1) 61 [.bool n0, .int .i64 n1, .int .i64 n2, .int .i64 n3, .int .i64 n4, .int .i64 n5, .int .i64 n6, .int .i64 n7, .int .i64 n8, .int .i64 n9, .int .i64 n10, .int .i64 n11, .string n12, .string n13, .int .i64 n14, .int .i64 n15, .int .i64 n16, .int .i64 n17, .slice a18 m18 p18, .int .i64 n19, .slice a20 m20 p20, .slice a21 m21 p21, .slice a22 m22 p22] := by rw [← hX]; have := (Bk.new (w.alloc (.cells #[.int .i64 x0, .slice a1 k1 c1, .slice a2 k2 c2, .slice a3 k3 c3, .slice a4 k4 c4, .map (some b)] 37)) 61 [.bool n0, .int .i64 n1, .int .i64 n2, .int .i64 n3, .int .i64 n4, .int .i64 n5, .int .i64 n6, .int .i64 n7, .int .i64 n8, .int .i64 n9, .int .i64 n10, .int .i64 n11, .string n12, .string n13, .int .i64 n14, .int .i64 n15, .int .i64 n16, .int .i64 n17, .slice a18 m18 p18, .int .i64 n19, .slice a20 m20 p20, .slice a21 m21 p21, .slice a22 m22 p22]).old (.cells #[.int .i64 0, .slice none 0 0, .slice none 0 0, .slice none 0 0, .slice none 0 0, .map none] 37); rwa [World.size_alloc] at this
 have hb3 : Bk X (w.heap.size + 1 + 1) 37 [.int .i64 0, .slice none 0 0, .slice none 0 0, .slice none 0 0, .slice none 0 0, .map none] := by rw [← hX]; have := Bk.new ((w.alloc (.cells #[.int .i64 x0, .slice a1 k1 c1, .slice a2 k2 c2, .slice a3 k3 c3, .slice a4 k4 c4, .map (some b)] 37)).alloc (.cells #[.bool n0, .int .i64 n1, .int .i64 n2, .int .i64 n3, .int .i64 n4, .int .i64 n5, .int .i64 n6, .int .i64 n7, .int .i64 n8, .int .i64 n9, .int .i64 n10, .int .i64 n11, .string n12, .string n13, .int .i64 n14, .int .i64 n15, .int .i64 n16, .int .i64 n17, .slice a18 m18 p18, .int .i64 n19, .slice a20 m20 p20, .slice a21 m21 p21, .slice a22 m22 p22] 61)) 37 [.int .i64 0, .slice none 0 0, .slice none 0 0, .slice none 0 0, .slice none 0 0, .map none]; simpa using this
 have HSt := Hd (h.on hB)
 have HB := Hd hB
 have H1 := Hd hb1
 have H2 := Hd hb2
 have H3 := Hd hb3
 have HXt : Hid ((Tryz.prog.info? 37).map (·.size) = some 6) := Hd (by kernel_rfl)
 have HSz := Hd (show w.heap.size + 1 + 1 < X.heap.size from hb3.lt)
 have HBs := Hd (show b < w.heap.size from h.lt)
 have h0 : n0 = true := h0
 subst h0
 have h1 : ¬ (Cv.valB n19 l20 = true ∧ x0 < n19) := h1
 have H1n := Hd h1
 have HV := Hd (cvalid n19 a20 m20 p20 rs20 l20 X (hr20.on hB) hN)
 have y0 := hb1.cell 0
 simp only [gB] at y0
 have z0 := hb2.cell 0
 have z19 := hb2.cell 19
 have z20 := hb2.cell 20
 simp only [gB] at z0 z19 z20
 clear h1 hN
 clear h hr hsn hik hcr hs12 hs13 hr18 hr20 hr21 hr22 hk1 hk2 hk3 hk4 hB hb1 hb2 hb3
 go_enter Tryz.func21, Tryz.ntmps21
 go_wp2_with fail
 refine HV.out.mono ?_
 rintro e w1 ⟨rfl, hb⟩
 have HB1 := Hd (HB.out.trans (hb.mono HB.out.size))
 have HSt1 := Hd (HSt.out.on hb)
 have H1b := Hd (H1.out.below hb)
 have H2b := Hd (H2.out.below hb)
 have H3b := Hd (H3.out.below hb)
 have hy := (H1.out.below hb)
 have hz := (H2.out.below hb)
 clear hX y0 z0 z19 z20 hb
 have y0 := hy.cell 0
 simp only [gB] at y0
 have z0 := hz.cell 0
 have z19 := hz.cell 19
 simp only [gB] at z0 z19
 clear hy hz
 by_cases q : Cv.valB n19 l20 = true
 ·have q2 : ¬ x0 < n19 := fun z => H1n.out ⟨q, z⟩
  have d1 : decide (x0 < n19) = false := decide_eq_false q2
  rw [q]
  clear q
  go_wp2_with (first | (refine wpList_load_row rfl _ _ rfl w.heap.size rfl 37 #[.int .i64 x0, .slice a1 k1 c1, .slice a2 k2 c2, .slice a3 k3 c3, .slice a4 k4 c4, .map (some b)] (0, 0) _ H1b.out Tryz.underlying37 rfl HXt.out ?_) | (refine wpList_store_row rfl 37 _ _ rfl (w.heap.size + 1 + 1) rfl #[.int .i64 x0, .slice a1 k1 c1, .slice a2 k2 c2, .slice a3 k3 c3, .slice a4 k4 c4, .map (some b)] rfl #[.int .i64 0, .slice none 0 0, .slice none 0 0, .slice none 0 0, .slice none 0 0, .map none] 37 H3b.out HXt.out rfl (by rw [← Array.all_toList]; rfl) ?_))
  have hlv := run_loadVar_row (w1.setRow (w.heap.size + 1 + 1) #[.int .i64 x0, .slice a1 k1 c1, .slice a2 k2 c2, .slice a3 k3 c3, .slice a4 k4 c4, .map (some b)]) _ _ _ #[.int .i64 x0, .slice a1 k1 c1, .slice a2 k2 c2, .slice a3 k3 c3, .slice a4 k4 c4, .map (some b)] (0, 0) _ (heap_setRow_same _ _ #[.int .i64 0, .slice none 0 0, .slice none 0 0, .slice none 0 0, .slice none 0 0, .map none] #[.int .i64 x0, .slice a1 k1 c1, .slice a2 k2 c2, .slice a3 k3 c3, .slice a4 k4 c4, .map (some b)] _ H3b.out) Tryz.underlying37 rfl HXt.out
  have hBf := below_setRow HB1.out (show w.heap.size ≤ w.heap.size + 1 + 1 by omega) #[.int .i64 x0, .slice a1 k1 c1, .slice a2 k2 c2, .slice a3 k3 c3, .slice a4 k4 c4, .map (some b)]
  have hStF := HSt1.out.keepT (KeepT.setRow H3b.out stT_state #[.int .i64 x0, .slice a1 k1 c1, .slice a2 k2 c2, .slice a3 k3 c3, .slice a4 k4 c4, .map (some b)]) ((sx_setRow _ (w.heap.size + 1 + 1) #[.int .i64 x0, .slice a1 k1 c1, .slice a2 k2 c2, .slice a3 k3 c3, .slice a4 k4 c4, .map (some b)]).block b (by have := HBs.out; omega))
  exact bodyPost_ret (v := .agg #[.int .i64 x0, .slice a1 k1 c1, .slice a2 k2 c2, .slice a3 k3 c3, .slice a4 k4 c4, .map (some b)]) (by simp [results, Tryz.results21, asAddr, Act.put, hlv]) rfl ⟨#[.int .i64 x0, .slice a1 k1 c1, .slice a2 k2 c2, .slice a3 k3 c3, .slice a4 k4 c4, .map (some b)], b, rfl, hStF, .inl rfl, Fb.of_below hBf⟩
 ·have q1 : Cv.valB n19 l20 = false := by simpa using q
  rw [q1]
  clear q q1
  go_wp2_with (first | (refine wpList_load_row rfl _ _ rfl w.heap.size rfl 37 #[.int .i64 x0, .slice a1 k1 c1, .slice a2 k2 c2, .slice a3 k3 c3, .slice a4 k4 c4, .map (some b)] (0, 0) _ H1b.out Tryz.underlying37 rfl HXt.out ?_) | (refine wpList_store_row rfl 37 _ _ rfl (w.heap.size + 1 + 1) rfl #[.int .i64 x0, .slice a1 k1 c1, .slice a2 k2 c2, .slice a3 k3 c3, .slice a4 k4 c4, .map (some b)] rfl #[.int .i64 0, .slice none 0 0, .slice none 0 0, .slice none 0 0, .slice none 0 0, .map none] 37 H3b.out HXt.out rfl (by rw [← Array.all_toList]; rfl) ?_))
  have hlv := run_loadVar_row (w1.setRow (w.heap.size + 1 + 1) #[.int .i64 x0, .slice a1 k1 c1, .slice a2 k2 c2, .slice a3 k3 c3, .slice a4 k4 c4, .map (some b)]) _ _ _ #[.int .i64 x0, .slice a1 k1 c1, .slice a2 k2 c2, .slice a3 k3 c3, .slice a4 k4 c4, .map (some b)] (0, 0) _ (heap_setRow_same _ _ #[.int .i64 0, .slice none 0 0, .slice none 0 0, .slice none 0 0, .slice none 0 0, .map none] #[.int .i64 x0, .slice a1 k1 c1, .slice a2 k2 c2, .slice a3 k3 c3, .slice a4 k4 c4, .map (some b)] _ H3b.out) Tryz.underlying37 rfl HXt.out
  have hBf := below_setRow HB1.out (show w.heap.size ≤ w.heap.size + 1 + 1 by omega) #[.int .i64 x0, .slice a1 k1 c1, .slice a2 k2 c2, .slice a3 k3 c3, .slice a4 k4 c4, .map (some b)]
  have hStF := HSt1.out.keepT (KeepT.setRow H3b.out stT_state #[.int .i64 x0, .slice a1 k1 c1, .slice a2 k2 c2, .slice a3 k3 c3, .slice a4 k4 c4, .map (some b)]) ((sx_setRow _ (w.heap.size + 1 + 1) #[.int .i64 x0, .slice a1 k1 c1, .slice a2 k2 c2, .slice a3 k3 c3, .slice a4 k4 c4, .map (some b)]).block b (by have := HBs.out; omega))
  exact bodyPost_ret (v := .agg #[.int .i64 x0, .slice a1 k1 c1, .slice a2 k2 c2, .slice a3 k3 c3, .slice a4 k4 c4, .map (some b)]) (by simp [results, Tryz.results21, asAddr, Act.put, hlv]) rfl ⟨#[.int .i64 x0, .slice a1 k1 c1, .slice a2 k2 c2, .slice a3 k3 c3, .slice a4 k4 c4, .map (some b)], b, rfl, hStF, .inl rfl, Fb.of_below hBf⟩
theorem with_a (x : Snp) (L : List I3) (M : List (I3 × Ins)) (cs : Array Value) (b : Nat) (vr : Value) (r : Bool × Id3 × Ins × Snp) (w : World) (h : StIs w cs b x L M) (hR : RecIs w vr r) (h0 : r.1 = true) (h1 : Cv.valB r.2.2.2.1.1 r.2.2.2.1.2 = true) (h2 : x.1.1 < r.2.2.2.1.1) (hN : Sn6 r.2.2.2) : Calls Tryz.prog 21 #[.agg cs, vr] w (WiP (r.2.2.2, [], []) b w) := by
 obtain ⟨v1, v2, v3, v4, hcs, hsn, hik⟩ := h.cells
 obtain ⟨a1, c1, a2, c2, a3, c3, e1, e2, e3⟩ := hsn.slices
 obtain ⟨a4, c4, e4⟩ := hik.slice
 obtain ⟨cr, rfl, hr⟩ := hR
 obtain ⟨a18, m18, p18, rs18, a20, m20, p20, rs20, a21, m21, p21, rs21, a22, m22, p22, rs22, hcr, hs12, hs13, hr18, hr20, hr21, hr22⟩ := rc_is hr
 obtain ⟨n0, ⟨n1, n2, n3⟩, ⟨n4, ⟨n5, n6⟩, ⟨n7, n8⟩, ⟨n9, n10, n11, n12, n13, n14, n15, n16⟩, n17, l18⟩, ⟨n19, l20⟩, l21, l22⟩ := r
 obtain ⟨⟨x0, q1⟩, q2, q3⟩ := x
 obtain rfl : cr = #[.bool n0, .int .i64 n1, .int .i64 n2, .int .i64 n3, .int .i64 n4, .int .i64 n5, .int .i64 n6, .int .i64 n7, .int .i64 n8, .int .i64 n9, .int .i64 n10, .int .i64 n11, .string n12, .string n13, .int .i64 n14, .int .i64 n15, .int .i64 n16, .int .i64 n17, .slice a18 m18 p18, .int .i64 n19, .slice a20 m20 p20, .slice a21 m21 p21, .slice a22 m22 p22] := by
  cases cr
  simpa [idE, inV, snV] using hcr
 obtain ⟨k1, hk1⟩ : ∃ q, q1.length = q := ⟨_, rfl⟩
 obtain ⟨k2, hk2⟩ : ∃ q, q2.length = q := ⟨_, rfl⟩
 obtain ⟨k3, hk3⟩ : ∃ q, q3.length = q := ⟨_, rfl⟩
 obtain ⟨k4, hk4⟩ : ∃ q, L.length = q := ⟨_, rfl⟩
 simp only [hk1] at e1
 simp only [hk2] at e2
 simp only [hk3] at e3
 rw [hk4] at e4
 subst e1 e2 e3 e4 hcs
 obtain ⟨X, hX⟩ : ∃ X, ((w.alloc (.cells #[.int .i64 x0, .slice a1 k1 c1, .slice a2 k2 c2, .slice a3 k3 c3, .slice a4 k4 c4, .map (some b)] 37)).alloc (.cells #[.bool n0, .int .i64 n1, .int .i64 n2, .int .i64 n3, .int .i64 n4, .int .i64 n5, .int .i64 n6, .int .i64 n7, .int .i64 n8, .int .i64 n9, .int .i64 n10, .int .i64 n11, .string n12, .string n13, .int .i64 n14, .int .i64 n15, .int .i64 n16, .int .i64 n17, .slice a18 m18 p18, .int .i64 n19, .slice a20 m20 p20, .slice a21 m21 p21, .slice a22 m22 p22] 61)).alloc (.cells #[.int .i64 0, .slice none 0 0, .slice none 0 0, .slice none 0 0, .slice none 0 0, .map none] 37) = X := ⟨_, rfl⟩
 have hB : Below w.heap.size w X := by rw [← hX]; exact (((Below.refl _ _).alloc (Nat.le_refl _) _).alloc (by simp) _).alloc (by simp; omega) _
 have hb1 : Bk X w.heap.size 37 [.int .i64 x0, .slice a1 k1 c1, .slice a2 k2 c2, .slice a3 k3 c3, .slice a4 k4 c4, .map (some b)] := by rw [← hX]; exact ((Bk.new w _ _).old _).old _
 have hb2 : Bk X (w.heap.size + 1) 61 [.bool n0, .int .i64 n1, .int .i64 n2, .int .i64 n3, .int .i64 n4, .int .i64 n5, .int .i64 n6, .int .i64 n7, .int .i64 n8, .int .i64 n9, .int .i64 n10, .int .i64 n11, .string n12, .string n13, .int .i64 n14, .int .i64 n15, .int .i64 n16, .int .i64 n17, .slice a18 m18 p18, .int .i64 n19, .slice a20 m20 p20, .slice a21 m21 p21, .slice a22 m22 p22] := by rw [← hX]; have := (Bk.new (w.alloc (.cells #[.int .i64 x0, .slice a1 k1 c1, .slice a2 k2 c2, .slice a3 k3 c3, .slice a4 k4 c4, .map (some b)] 37)) 61 [.bool n0, .int .i64 n1, .int .i64 n2, .int .i64 n3, .int .i64 n4, .int .i64 n5, .int .i64 n6, .int .i64 n7, .int .i64 n8, .int .i64 n9, .int .i64 n10, .int .i64 n11, .string n12, .string n13, .int .i64 n14, .int .i64 n15, .int .i64 n16, .int .i64 n17, .slice a18 m18 p18, .int .i64 n19, .slice a20 m20 p20, .slice a21 m21 p21, .slice a22 m22 p22]).old (.cells #[.int .i64 0, .slice none 0 0, .slice none 0 0, .slice none 0 0, .slice none 0 0, .map none] 37); rwa [World.size_alloc] at this
 have hb3 : Bk X (w.heap.size + 1 + 1) 37 [.int .i64 0, .slice none 0 0, .slice none 0 0, .slice none 0 0, .slice none 0 0, .map none] := by rw [← hX]; have := Bk.new ((w.alloc (.cells #[.int .i64 x0, .slice a1 k1 c1, .slice a2 k2 c2, .slice a3 k3 c3, .slice a4 k4 c4, .map (some b)] 37)).alloc (.cells #[.bool n0, .int .i64 n1, .int .i64 n2, .int .i64 n3, .int .i64 n4, .int .i64 n5, .int .i64 n6, .int .i64 n7, .int .i64 n8, .int .i64 n9, .int .i64 n10, .int .i64 n11, .string n12, .string n13, .int .i64 n14, .int .i64 n15, .int .i64 n16, .int .i64 n17, .slice a18 m18 p18, .int .i64 n19, .slice a20 m20 p20, .slice a21 m21 p21, .slice a22 m22 p22] 61)) 37 [.int .i64 0, .slice none 0 0, .slice none 0 0, .slice none 0 0, .slice none 0 0, .map none]; simpa using this
 have HSt := Hd (h.on hB)
 have HB := Hd hB
 have H1 := Hd hb1
 have H2 := Hd hb2
 have H3 := Hd hb3
 have HXt : Hid ((Tryz.prog.info? 37).map (·.size) = some 6) := Hd (by kernel_rfl)
 have HSz := Hd (show w.heap.size + 1 + 1 < X.heap.size from hb3.lt)
 have HBs := Hd (show b < w.heap.size from h.lt)
 have h0 : n0 = true := h0
 subst h0
 have h1 : Cv.valB n19 l20 = true := h1
 have h2 : x0 < n19 := h2
 have d1 : decide (x0 < n19) = true := decide_eq_true h2
 have HVb := Hd h1
 have HV := Hd (cvalid n19 a20 m20 p20 rs20 l20 X (hr20.on hB) hN.a)
 have HBg := Hd (fun (W : World) (hW : Below X.heap.size X W) => begun_any ((n19, l20), l21, l22) #[.int .i64 n19, .slice a20 m20 p20, .slice a21 m21 p21, .slice a22 m22 p22] W (sn_mk (x := ((n19, l20), l21, l22)) (hr20.on (hB.trans (hW.mono hB.size))) (hr21.on (hB.trans (hW.mono hB.size))) (hr22.on (hB.trans (hW.mono hB.size)))) hN)
 have y0 := hb1.cell 0
 simp only [gB] at y0
 have z0 := hb2.cell 0
 have z19 := hb2.cell 19
 have z20 := hb2.cell 20
 simp only [gB] at z0 z19 z20
 clear h1 h2 hN
 clear h hr hsn hik hcr hs12 hs13 hr18 hr20 hr21 hr22 hk1 hk2 hk3 hk4 hB hb1 hb2 hb3
 go_enter Tryz.func21, Tryz.ntmps21
 go_wp2_with fail
 refine HV.out.mono ?_
 rintro e w1 ⟨rfl, hb⟩
 have HB1 := Hd (HB.out.trans (hb.mono HB.out.size))
 have HSt1 := Hd (HSt.out.on hb)
 have H1b := Hd (H1.out.below hb)
 have H2b := Hd (H2.out.below hb)
 have H3b := Hd (H3.out.below hb)
 have HbX := Hd hb
 have hy := (H1.out.below hb)
 have hz := (H2.out.below hb)
 clear hX y0 z0 z19 z20 hb
 have y0 := hy.cell 0
 simp only [gB] at y0
 have z0 := hz.cell 0
 have z19 := hz.cell 19
 have z20 := hz.cell 20
 have z21 := hz.cell 21
 have z22 := hz.cell 22
 simp only [gB] at z0 z19 z20 z21 z22
 clear hy hz
 rw [HVb.out]
 go_wp2_with fail
 refine (HBg.out w1 HbX.out).mono ?_
 rintro e w2 ⟨csb, b2, he, hs, hbb, hb⟩
 rw [he.out]
 obtain ⟨u1, u2, u3, u4, hcsb, hsn, hik⟩ := (hs w2 (fun _ _ _ => rfl)).cells
 obtain ⟨g1, d1', g2, d2', g3, d3', e1, e2, e3⟩ := hsn.slices
 obtain ⟨g4, d4, e4⟩ := hik.slice
 obtain ⟨j1, hj1⟩ : ∃ q, l20.length = q := ⟨_, rfl⟩
 obtain ⟨j2, hj2⟩ : ∃ q, l21.length = q := ⟨_, rfl⟩
 obtain ⟨j3, hj3⟩ : ∃ q, l22.length = q := ⟨_, rfl⟩
 simp only [hj1] at e1
 simp only [hj2] at e2
 simp only [hj3] at e3
 simp only [List.length_nil] at e4
 subst e1 e2 e3 e4 hcsb
 have HSn := Hd (hs w2 (fun _ _ _ => rfl))
 have HB2 := Hd (HB1.out.trans (hb.mono HB1.out.size))
 have H3c := Hd (H3b.out.below hb)
 have Hb2 := Hd (show w.heap.size + 1 + 1 < b2 by have := H3b.out.lt; omega)
 clear he hs hbb hb hsn hik hj1 hj2 hj3 y0 z0 z19 z20 z21 z22
 go_wp2_with (refine wpList_store_row rfl 37 _ _ rfl (w.heap.size + 1 + 1) rfl #[.int .i64 n19, .slice g1 j1 d1', .slice g2 j2 d2', .slice g3 j3 d3', .slice g4 0 d4, .map (some b2)] rfl #[.int .i64 0, .slice none 0 0, .slice none 0 0, .slice none 0 0, .slice none 0 0, .map none] 37 H3c.out HXt.out rfl (by rw [← Array.all_toList]; rfl) ?_)
 have hlv := run_loadVar_row (w2.setRow (w.heap.size + 1 + 1) #[.int .i64 n19, .slice g1 j1 d1', .slice g2 j2 d2', .slice g3 j3 d3', .slice g4 0 d4, .map (some b2)]) _ _ _ #[.int .i64 n19, .slice g1 j1 d1', .slice g2 j2 d2', .slice g3 j3 d3', .slice g4 0 d4, .map (some b2)] (0, 0) _ (heap_setRow_same _ _ #[.int .i64 0, .slice none 0 0, .slice none 0 0, .slice none 0 0, .slice none 0 0, .map none] #[.int .i64 n19, .slice g1 j1 d1', .slice g2 j2 d2', .slice g3 j3 d3', .slice g4 0 d4, .map (some b2)] _ H3c.out) Tryz.underlying37 rfl HXt.out
 have hBf := below_setRow HB2.out (show w.heap.size ≤ w.heap.size + 1 + 1 by omega) #[.int .i64 n19, .slice g1 j1 d1', .slice g2 j2 d2', .slice g3 j3 d3', .slice g4 0 d4, .map (some b2)]
 have hStF := HSn.out.keepT (KeepT.setRow H3c.out stT_state #[.int .i64 n19, .slice g1 j1 d1', .slice g2 j2 d2', .slice g3 j3 d3', .slice g4 0 d4, .map (some b2)]) ((sx_setRow _ (w.heap.size + 1 + 1) #[.int .i64 n19, .slice g1 j1 d1', .slice g2 j2 d2', .slice g3 j3 d3', .slice g4 0 d4, .map (some b2)]).block b2 (by have := Hb2.out; omega))
 exact bodyPost_ret (v := .agg #[.int .i64 n19, .slice g1 j1 d1', .slice g2 j2 d2', .slice g3 j3 d3', .slice g4 0 d4, .map (some b2)]) (by simp [results, Tryz.results21, asAddr, Act.put, hlv]) rfl ⟨#[.int .i64 n19, .slice g1 j1 d1', .slice g2 j2 d2', .slice g3 j3 d3', .slice g4 0 d4, .map (some b2)], b2, rfl, hStF, .inr (by have := Hb2.out; omega), Fb.of_below hBf⟩
end Go.Proofs.YtnancdbkmompdaaGreat
