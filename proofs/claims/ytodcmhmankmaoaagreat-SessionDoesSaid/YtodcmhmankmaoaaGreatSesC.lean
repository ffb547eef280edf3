/-
 A machine's sessions, by rising clients.
-/
import Derived.Test.YtodcmhmankmaoaaGreatSesB
import Derived.Shelf.SlIterI.Nil
import Derived.Shelf.SortM.Plain
import Derived.Shelf.SortM.SortNone
import Derived.Ground.GgzProg
import Derived.Ground.SlgmProg
namespace Go.Proofs.YtodcmhmankmaoaaGreat
open Go.RowKit Go.Maps Go.Sort Go.Shelf
set_option linter.unusedSimpArgs false
set_option linter.unusedVariables false

shelf_lay_g SlLaysZI.n7 Ggz 7 at Tryz 52 as Tryz.keysS
shelf_lay_g SlLaysZI.n6 Ggz 6 at Tryz 51 as Tryz.sortedS
shelf_lay_g SlLaysM.n5 Slgm 5 at Tryz 74 as Tryz.sortS

theorem sortsS (m : Nat) : AnyZI.SortsIn Tryz.prog Tryz.sortedS_ren Fence.wide m :=
 ⟨fun blk off cap ss W hH hblk hsz => callsIn_wide.2 (AnyM.slices_Sort_int Tryz.sortS blk off cap ss W hH hblk hsz),
  fun p cap W => callsIn_wide.2 (AnyM.slices_Sort_int_none Tryz.sortS p cap W)⟩
theorem keysS_any (sb : Nat) (W : World) : Calls Tryz.prog 52 #[.map (some sb)] W fun e w' => e = .returned (.func (.func 75) #[] #[.pointer (some ⟨W.heap.size, 0, none⟩)]) ∧ w' = W.alloc (.cells #[.map (some sb)] 85) :=
 (callsIn_wide (n := 5)).1 (AnyZI.keys_in Tryz.keysS Fence.wide 5 trivial rfl (some sb) W)
theorem clients_perm {w : World} {b n : Nat} {D : DataW Unit} {s : List S3} (hown : w.ownsMap (H := Unit) Tryz.prog 3 sesElem b n D) (hI : SesIs w D s) (hr : RisesS s) : (s.map (·.1)).Perm (intKeys D) := by
 refine CollectedI.perm (left := fun _ => false) ⟨?_, fun x => ?_⟩ hown intK Tryz.underlying3 (fun _ => rfl)
 ·rw [List.nodup_iff_pairwise_ne, List.pairwise_map]
  exact List.Pairwise.imp (fun {a b} q e => by omega) hr
 ·have h1 : has D (.int .i64 x) = (fndS s x).isSome := hI.has x
  rw [h1]
  simp only [and_true]
  constructor
  ·intro hx
   obtain ⟨e, he, rfl⟩ := List.mem_map.1 hx
   rw [(fndS_some (c := e.1) (q := e.2.1) (r := e.2.2) hr).2 he]
   rfl
  ·intro hx
   obtain ⟨y, hy⟩ := Option.isSome_iff_exists.1 hx
   exact List.mem_map.2 ⟨(x, y.1, y.2), (fndS_some hr).1 hy, rfl⟩
theorem clients_sorted {s : List S3} (hr : RisesS s) {ss : List Int} (hp : ss.Perm (s.map (·.1))) : (ss.mergeSort fun x y => decide (x ≤ y)) = s.map (·.1) := by
 have h1 : ss.mergeSort leI = (s.map (·.1)).mergeSort leI := mergeSort_of_perm_i hp
 refine h1.trans (List.mergeSort_of_pairwise ?_)
 rw [List.pairwise_map]
 exact List.Pairwise.imp (fun {a b} q => by simp only [leI, decide_eq_true_eq]; omega) hr
def KeyP (s : List S3) (w : World) (e : Ending) (w' : World) : Prop := ∃ v, Hid (e = .returned v) ∧ Own1 w' w.heap.size 3 v (s.map fun e => .int .i64 e.1) ∧ Below w.heap.size w w'
theorem sortedS_any {w : World} {sb n : Nat} {D : DataW Unit} {s : List S3} (hown : w.ownsMap (H := Unit) Tryz.prog 3 sesElem sb n D) (hI : SesIs w D s) (hr : RisesS s) (hn : n ≤ 900000) :
  Calls Tryz.prog 51 #[.func (.func 75) #[] #[.pointer (some ⟨w.heap.size, 0, none⟩)]] (w.alloc (.cells #[.map (some sb)] 85)) (KeyP s (w.alloc (.cells #[.map (some sb)] 85))) := by
 have hbl := hown.lt
 have hsz := Nat.le_trans hown.size_le hn
 have hmax : Maps.size D ≤ maxLen := by unfold maxLen; omega
 have hbytes : Maps.size D * 8 ≤ 140737488355328 := by omega
 have hseq : SeqGives Fence.wide 2 Tryz.prog 75 #[.pointer (some ⟨w.heap.size, 0, none⟩)] encZ (fun ss => ss.Perm (intKeys D)) (Maps.size D) (w.alloc (.cells #[.map (some sb)] 85)) :=
  AnyZI.keys_gives (ρ := Tryz.keysS_ren) { Tryz.keysS with } Fence.wide _ trivial rfl (by omega) w.heap.size sb n D _ (by simp) (by simp) (hown.alloc _)
 have cS := AnyZI.sorted_in Tryz.sortedS Fence.wide 5 trivial trivial trivial trivial rfl (by omega) (sortsS _) (enters_of Tryz.func74 (by kernel_rfl) rfl) 75 #[.pointer (some ⟨w.heap.size, 0, none⟩)] trivial (enters_of Tryz.func75 (by kernel_rfl) rfl) _ _ hmax hbytes _ hseq
 change CallsIn _ _ Tryz.prog 51 _ _ _ at cS
 refine ((callsIn_wide (n := 5)).1 cS).mono ?_
 rintro e w' ⟨v, ss, he, hp, hrow, _, hb⟩
 refine ⟨v, Lib.hid he, ?_, hb⟩
 have hp2 := hp.trans (clients_perm hown hI hr).symm
 rw [clients_sorted hr hp2, List.map_map] at hrow
 have hl : ss.length = (s.map fun e => Value.int .i64 e.1).length := by rw [hp2.length_eq]; simp
 unfold Own1
 rw [← hl]
 exact hrow
theorem look_get {w : World} {b n : Nat} {D : DataW Unit} {s : List S3} (hM : w.ownsMap (H := Unit) Tryz.prog 3 sesElem b n D) (hI : SesIs w D s) {c q : Int} {r : Rep} (hf : fndS s c = some (q, r)) (hk : keyOf Tryz.prog 3 (.int .i64 c) = some (kI c)) :
  ∃ v, SK.Own w 0 v r.names ∧ ∀ w2 : World, w2.ownsMap (H := Unit) Tryz.prog 3 sesElem b n D → (Instr.lookup 85 (.map (some b)) (.int .i64 c) false).run Tryz.prog w2 = .ok (sesV c q r v) w2 := by
 obtain ⟨x0, h1, h2⟩ := hI.val c q r hf
 refine ⟨slV x0.sl x0.n, h2.row, fun w2 hM2 => ?_⟩
 obtain ⟨v, ps, hr, hv⟩ := hM2.lookup intK Tryz.underlying85 (zeroS w2) (sesElem_mk (x := svZ) (fun _ => rfl)) hk
 obtain ⟨x, hx, rfl, hz⟩ := sesElem_inv hv
 have e := congrArg Prod.fst hz
 change D.atKey (kI c) (svD svZ) = svD x at e
 rw [h1] at e
 have hxx := svD_inj h2.ok hx e
 subst hxx
 rw [hr]
 obtain ⟨a1, a2, a3, a4, a5⟩ := (⟨h2.cl, h2.sq, h2.er, h2.vl, h2.vr⟩ : _ ∧ _ ∧ _ ∧ _ ∧ _)
 simp only at a1 a2 a3 a4 a5
 simp only [svV, sesV, a1, a2, a3, a4, a5]
theorem wpList_lookG {ops : Array Oper} {rest : List Oper} {o : Oper} {a : Act} {w : World} {Q : Exit → Act → World → Prop} (hgd : o.guard = none) (m x : Operand) (ho : o.op = .lookup 85 m x false) (b : Nat) (hm : a.eval m = .map (some b)) (c : Int) (hx : a.eval x = .int .i64 c)
  (v : Value) (hr : (Instr.lookup 85 (.map (some b)) (.int .i64 c) false).run Tryz.prog w = .ok v w) (h : wpList Tryz.prog ops Q rest (a.put o.dst v) w) : wpList Tryz.prog ops Q (o :: rest) a w := by
 refine wpList_value (by simp [Region.wanted, hgd]) v w ?_ h
 unfold execOp
 simp only [ho, hm, hx, Sem.run_bind, hr, Result.andThen_ok, Sem.run_pure]
theorem infoSes : (Tryz.prog.info? 51).map (fun i => (i.zero, i.size, i.bytes)) = some (some (svV svZ), 6, 72) := by kernel_rfl
theorem slV_one (sl : Option (Nat × Nat)) (n : Nat) : (slV sl n).oneCell' = true := by
 cases sl with
 | none => rfl
 | some y => rfl
/-- Sessions as elements of rows. -/
noncomputable def SE : Knd Tryz.prog SV where
 T := 51
 S := 46
 k := 6
 enc := fun x => [.int .i64 x.cl, .int .i64 x.sq, .int .i64 x.er, .string x.vl, .int .i64 x.vr, slV x.sl x.n]
 z := svV svZ
 B := 72
 len := fun _ => rfl
 one := fun x v h => by
  simp only [List.mem_cons, List.not_mem_nil, or_false] at h
  rcases h with rfl | rfl | rfl | rfl | rfl | rfl
  ·rfl
  ·rfl
  ·rfl
  ·rfl
  ·rfl
  ·exact slV_one _ _
 und := Tryz.underlying46
 info := infoSes
 zc := rfl
 pos := by omega
 small := by omega
 d := svZ
abbrev zS : S3 := (0, 0, bad 0)
/-- A row of sessions, one by one. -/
structure Match (w : World) (xs : List SV) (s : List S3) : Prop where
 len : xs.length = s.length
 at' : ∀ j, j < s.length → SVof w (xs.getD j svZ) (s.getD j zS)
theorem Match.on {w w' : World} {xs : List SV} {s : List S3} (h : Match w xs s) (hb : Below w.heap.size w w') : Match w' xs s := ⟨h.len, fun j hj => (h.at' j hj).on hb⟩
theorem Match.out {w w' : World} {xs : List SV} {s : List S3} {bk : Nat} (h : Match w xs s) (hg : w.grownBy w' (some bk)) (hne : ∀ g cs T fr, w.heap[g]? = some (.cells cs T fr) → g ≠ bk) : Match w' xs s := ⟨h.len, fun j hj => (h.at' j hj).out hg hne⟩
theorem row_grow {w w' : World} {base b2 : Nat} {v u : Value} {xs : List SV} {ns : List ByteArray} (h : SK.Own w base v ns) (hu : SE.Own w b2 u xs) (hg : w.grownBy w' u.ownBlock) : SK.Own w' base v ns := by
 refine h.keepB fun k hk => hg.block k (h.blk k hk).1 fun e => ?_
 obtain ⟨_, cs, fr, hc⟩ := h.blk k hk
 obtain ⟨_, cs2, fr2, hc2⟩ := hu.blk k e.symm
 rw [hc] at hc2
 simp only [Option.some.injEq, Obj.cells.injEq] at hc2
 have : (9 : TypeId) = 51 := hc2.2.1
 exact absurd this (by decide)
theorem Match.grow {w w' : World} {b2 : Nat} {u : Value} {xs ys : List SV} {s : List S3} (h : Match w xs s) (hu : SE.Own w b2 u ys) (hg : w.grownBy w' u.ownBlock) : Match w' xs s :=
 ⟨h.len, fun j hj => by have h2 := h.at' j hj; exact ⟨h2.ok, h2.cl, h2.sq, h2.er, h2.vl, h2.vr, row_grow h2.row hu hg⟩⟩
theorem int_grow {w w' : World} {base b2 : Nat} {v u : Value} {xs : List SV} {vs : List Value} (h : Own1 w base 3 v vs) (hu : SE.Own w b2 u xs) (hg : w.grownBy w' u.ownBlock) : Own1 w' base 3 v vs := by
 refine h.keepB fun k hk => ?_
 obtain ⟨cs, fr, hc⟩ := h.blk k hk
 refine hg.block k (Array.getElem?_eq_some_iff.1 hc).1 fun e => ?_
 obtain ⟨_, cs2, fr2, hc2⟩ := hu.blk k e.symm
 rw [hc] at hc2
 simp only [Option.some.injEq, Obj.cells.injEq] at hc2
 have : (3 : TypeId) = 51 := hc2.2.1
 exact absurd this (by decide)
theorem match_snoc {w : World} {xs : List SV} {s : List S3} {k : Nat} (hk : k < s.length) (h : Match w xs (s.take k)) {x : SV} (hx : SVof w x (s.getD k zS)) : Match w (xs ++ [x]) (s.take (k + 1)) := by
 have hl : xs.length = k := by have := h.len; rw [List.length_take] at this; omega
 refine ⟨by simp; omega, fun j hj => ?_⟩
 have hjk : j < k + 1 := by rw [List.length_take] at hj; omega
 by_cases e : j = k
 ·subst e
  have e1 : (xs ++ [x]).getD j svZ = x := by simp [List.getD, List.getElem?_append, hl]
  have e2 : (s.take (j + 1)).getD j zS = s.getD j zS := by simp [List.getD, List.getElem?_take]
  rw [e1, e2]
  exact hx
 ·have hjk2 : j < k := by omega
  have := h.at' j (by rw [List.length_take]; omega)
  have e1 : (xs ++ [x]).getD j svZ = xs.getD j svZ := by simp [List.getD, List.getElem?_append, hl, hjk2]
  have e2 : (s.take (k + 1)).getD j zS = (s.take k).getD j zS := by simp [List.getD, List.getElem?_take, hjk, hjk2]
  rw [e1, e2]
  exact this
def SesP (s : List S3) (w : World) (e : Ending) (w' : World) : Prop := ∃ v xs, Hid (e = .returned v) ∧ SE.Own w' w.heap.size v xs ∧ Match w' xs s ∧ Below w.heap.size w w'
set_option maxRecDepth 100000 in
set_option maxHeartbeats 4000000 in
theorem sessions_any {X w : World} {g d bk sb K : Nat} {m : Mac} (h : MacAt X g d bk sb K m w) (hs : SmM m) (hK : K ≤ 900000) : Calls Tryz.prog 26 #[dP g] w (SesP m.s w) := by
 obtain ⟨D, n, hn, hM, hI⟩ := h.map
 have H := Lib.hid h
 have HM := Lib.hid hM
 have HI := Lib.hid hI
 have HN := Lib.hid hn
 have HS := Lib.hid hs
 have HR := Lib.hid h.right.rise
 have HV := Lib.hid h.right.val
 have gc := h.c1
 have hsz : Maps.size D ≤ 900000 := Nat.le_trans hM.size_le (by omega)
 obtain ⟨C, hC⟩ : ∃ C, Maps.size D = C := ⟨_, rfl⟩
 rw [hC] at hsz
 have HC := Lib.hid hC
 have hgl := World.block_lt_of_cell? w _ h.c0
 have HGL := Lib.hid hgl
 obtain ⟨N, hNs⟩ : ∃ N, m.s.length = N := ⟨_, rfl⟩
 have HNs := Lib.hid hNs
 have hNb : N ≤ 900000 := by
  have h1 := (clients_perm hM hI h.right.rise).length_eq
  have h2 : (intKeys D).length = Maps.size D := by
   cases D <;> simp [intKeys, Maps.size]
  rw [List.length_map, h2, hC, hNs] at h1
  omega
 clear h hM hI hn hs hC hgl hNs
 go_enter Tryz.func26, Tryz.ntmps26
 go_wp2_with (first
  | (at_len; refine wpList_len_own _ rfl _ 85 rfl 3 51 Tryz.underlying85 sesElem sb n D rfl HM.out ?_; rw [HC.out])
  | refine SE.make rfl _ _ rfl rfl C rfl (by omega) w.heap.size (Nat.le_refl _) ?_)
 intro v1 w1 hO1 hb1 hne1 hg1
 have HO1 := Lib.hid hO1
 have HB1 := Lib.hid hb1
 have HM1 := Lib.hid (HM.out.kept (row := none) hg1 (by simp))
 have HI1 := Lib.hid (HI.out.on hb1)
 have gc1 := (hb1.cell (p := ⟨g, 1, none⟩) HGL.out).trans gc
 clear hO1 hb1 hne1 hg1 gc
 go_wp2_with fail
 refine (keysS_any sb w1).mono ?_
 rintro e w' ⟨rfl, rfl⟩
 have HSO := Lib.hid (sortedS_any HM1.out HI1.out HR.out (by have := HN.out; omega))
 clear gc1
 go_wp2_with fail
 refine HSO.out.mono ?_
 rintro e w2 ⟨v2, he, hrow, hb2⟩
 have he := he.out
 subst he
 have hb12 : Below w1.heap.size w1 w2 := ((Below.refl _ _).alloc (Nat.le_refl _) _).trans (hb2.mono (by simp))
 have HO2 := Lib.hid (HO1.out.below hb12)
 have HB2 := Lib.hid (HB1.out.trans (hb12.mono HB1.out.size))
 have HROW := Lib.hid hrow
 obtain ⟨a2, c2, hv2⟩ := hrow.slice
 rw [List.length_map, HNs.out] at hv2
 subst hv2
 clear hrow hb2 hb12 HO1 HB1 HM1 HI1 HSO
 go_wp2_with fail
 go_loopw [3, 19] (fun sl i wr => ∃ (k : Nat) (v : Value) (xs : List SV), k ≤ N ∧ i = .int .i64 k ∧ v = sl ∧ Hid (SE.Own wr w.heap.size v xs) ∧ Hid (Match wr xs (m.s.take k)) ∧ Hid (Own1 wr (w1.alloc (.cells #[.map (some sb)] 85)).heap.size 3 (.slice a2 N c2) (m.s.map fun e => .int .i64 e.1)) ∧ Hid (Below w.heap.size w wr)) (fun _ i _ => N - (intOf i).toNat)
 case atStart => exact ⟨0, _, [], Nat.zero_le _, rfl, rfl, HO2, Lib.hid ⟨by simp, fun j hj => by simp at hj⟩, HROW, HB2⟩
 case round =>
  clear HO2 HROW HB2
  obtain ⟨k, v, xs, hk, rfl, rfl, hO, hMt, hRow, hB⟩ := hrel
  by_cases hlt : k < N
  ·have hlt' : (k : Int) < (N : Int) := by omega
   have hkl : k < m.s.length := by rw [HNs.out]; exact hlt
   obtain ⟨g2, c3, hv3, hg2, hc2⟩ := hRow.out.cell k (by rw [List.length_map]; exact hkl)
   have hmem : m.s.getD k zS ∈ m.s := by rw [List.getD, List.getElem?_eq_getElem hkl]; exact List.getElem_mem hkl
   obtain ⟨⟨cl, q, r⟩, hE⟩ : ∃ E, m.s.getD k zS = E := ⟨_, rfl⟩
   rw [hE] at hmem
   have hval : (m.s.map fun e => Value.int .i64 e.1).getD k undef = .int .i64 cl := by
    rw [List.getD, List.getElem?_map, List.getElem?_eq_getElem hkl]
    have : m.s[k] = (cl, q, r) := by rw [← hE, List.getD, List.getElem?_eq_getElem hkl]; rfl
    rw [this]
    rfl
   rw [hval] at hc2
   obtain ⟨hq1, hq2, hq3⟩ := Value.slice.inj hv3
   subst hq1
   clear hq2 hq3
   have hvs := valS_b (HV.out _ hmem)
   have hkey : keyOf Tryz.prog 3 (.int .i64 cl) = some (kI cl) := kI_key (by omega) (by omega)
   have hMr : wr.ownsMap (H := Unit) Tryz.prog 3 sesElem sb n D := HM.out.kept (row := none) ⟨hB.out.os, hB.out.tape, hB.out.output, hB.out.size, fun k hk _ => hB.out.block k hk⟩ (by simp)
   obtain ⟨vs, hown, hrun⟩ := look_get hMr (HI.out.on hB.out) ((fndS_some HR.out).2 hmem) hkey
   have HRUN := Lib.hid (hrun wr hMr)
   have HCS := Lib.hid (csession_any cl q r vs wr hown.rd (HS.out _ hmem))
   have gcr := (hB.out.cell (p := ⟨g, 1, none⟩) HGL.out).trans H.out.c1
   have HE := Lib.hid hE
   have HMEM := Lib.hid hmem
   clear hE hmem hval hvs hkey hMr hown hrun hv3 hg2
   go_wp2_with (refine wpList_lookG rfl _ _ rfl sb rfl cl rfl _ HRUN.out ?_)
   clear HRUN gcr hc2
   go_wp2_with fail
   refine HCS.out.mono ?_
   rintro e w3 ⟨sl, nn, he, hsl, hrow, hb3⟩
   have he := he.out
   subst he
   have HSL := Lib.hid hsl
   have HRW := Lib.hid hrow
   have HO3 := Lib.hid (hO.out.below hb3)
   have HMt3 := Lib.hid (hMt.out.on hb3)
   have HRow3 := Lib.hid (hRow.out.below hb3)
   have HB3 := Lib.hid (hB.out.trans (hb3.mono hB.out.size))
   have hxl : xs.length ≤ 900000 := by have := hMt.out.len; rw [List.length_take] at this; omega
   have HXL := Lib.hid hxl
   clear hrow hb3 hO hMt hRow hB HCS hsl hxl
   go_wp2_with (refine SE.app rfl _ _ rfl w.heap.size v xs rfl ?own (.slice (some ⟨_, 0, none⟩) 1 1) [⟨cl, q, r.err, r.val, r.ver, sl, nn⟩] rfl ?rd ?len ?bs ?_)
   case own => exact HO3.out.below ((Below.refl _ _).alloc (Nat.le_refl _) _)
   case rd => exact SE.rd_box ⟨cl, q, r.err, r.val, r.ver, sl, nn⟩ _ _ _
   case len => have := HXL.out; simp only [List.length_cons, List.length_nil]; omega
   case bs => have := HB3.out.size; simp; omega
   intro v4 w4 ho4 hb4 hg4 hn4
   have hA : Below w3.heap.size w3 (w3.alloc (.cells #[.int .i64 cl, .int .i64 q, .int .i64 r.err, .string r.val, .int .i64 r.ver, slV sl nn] 51)) := (Below.refl _ _).alloc (Nat.le_refl _) _
   have HO4 := Lib.hid ho4
   have HB4 : Hid (Below w.heap.size w w4) := Lib.hid ((HB3.out.alloc HB3.out.size _).trans hb4)
   have HMt4 : Hid (Match w4 (xs ++ [⟨cl, q, r.err, r.val, r.ver, sl, nn⟩]) (m.s.take (k + 1))) := Lib.hid (match_snoc hkl ((HMt3.out.on hA).grow (HO3.out.below hA) hg4) (by
    rw [HE.out]
    exact ⟨HSL.out, rfl, rfl, rfl, rfl, rfl, row_grow ((HRW.out.below hA).base (Nat.zero_le _)) (HO3.out.below hA) hg4⟩))
   have HRow4 := Lib.hid (int_grow (HRow3.out.below hA) (HO3.out.below hA) hg4)
   clear ho4 hb4 hg4 hn4 hA HO3 HMt3 HRow3 HB3 HRW
   go_wp2
   go_roundw
   case rel => exact ⟨k + 1, v4, _, by omega, by go_num, rfl, HO4, HMt4, HRow4, HB4⟩
   case measure => simp [intOf]; omega
  ·obtain rfl : N = k := by omega
   have hlt' : ¬ (N : Int) < (N : Int) := by omega
   have HMt : Hid (Match wr xs m.s) := Lib.hid (by have := hMt.out; rw [← HNs.out, List.take_length] at this; exact this)
   clear hMt hlt hRow
   go_wp2
   go_ret
   exact ⟨v, xs, rfl, hO.out, HMt.out, hB.out⟩
end Go.Proofs.YtodcmhmankmaoaaGreat
