/-
  Texts put together: AcV, AcX.
-/
import Derived.Test.YtchhcaoondfpiaaGreatAcU
import Derived.Test.YtchhcaoondfpiaaGreatAcKk
import Derived.Laws.StructEq
namespace Go.Proofs.YtchhcaoondfpiaaGreat
open Go.RowKit Go.Sort
open Go.WideMaps
set_option linter.unusedSimpArgs false
set_option linter.unusedVariables false
set_option maxRecDepth 100000

/-- Two ballots held apart. -/
theorem eqBalA : EqlAt Tryz.prog 39 (fun x : Bal => .agg #[.int .i64 x.1, .int .i64 x.2]) (fun x y : Bal => decide (x = y)) := by
  refine ⟨fun x y w => ?_, GuardAt.agg _ (by kernel_rfl)⟩
  have u3 := Tryz.underlying3
  have a3 := Tryz.isAgg3
  have z3 := Tryz.sizeOf3
  have hS : Tryz.prog.underlying 39 = some (.struct (Tryz.prog.fieldsOf 39)) := by kernel_rfl
  have hp : Tryz.prog.stoodInHeld 39 = false := by kernel_rfl
  rw [run_eql_struct, show (10000 : Nat) = 9999 + 1 from rfl, run_equalIn_agg w 9999 39 _ _ hS hp]
  simp only [Program.fieldsOf, Tryz.underlying39]
  go_simp
  by_cases h1 : x.1 = y.1 <;> by_cases h2 : x.2 = y.2 <;> simp [h1, h2, Prod.ext_iff]
theorem eqB_runA (a1 a2 b1 b2 : Int) (q : Bool) (hq : decide (((a1, a2) : Bal) = (b1, b2)) = q) : (∀ w, Sem.run Tryz.prog (binOp .eql 39 (.agg #[.int .i64 a1, .int .i64 a2]) (.agg #[.int .i64 b1, .int .i64 b2])) w = .ok (.bool q) w) ∧
    (∀ op x y w, Sem.run Tryz.prog (eqGuard op 39 x y (.agg #[.int .i64 a1, .int .i64 a2]) (.agg #[.int .i64 b1, .int .i64 b2])) w = .ok () w) := by
  subst hq
  exact ⟨fun w => eqBalA.1 (a1, a2) (b1, b2) w, fun op x y w => eqBalA.2 op x y (a1, a2) (b1, b2) w⟩
theorem neB_runA (a1 a2 b1 b2 : Int) (q : Bool) (hq : decide (((a1, a2) : Bal) = (b1, b2)) = q) : (∀ w, Sem.run Tryz.prog (binOp .neq 39 (.agg #[.int .i64 a1, .int .i64 a2]) (.agg #[.int .i64 b1, .int .i64 b2])) w = .ok (.bool (!q)) w) := by
  subst hq
  intro w
  have h := eqBalA.1 (a1, a2) (b1, b2) w
  rw [run_eql_struct] at h
  rw [run_neq_struct]
  revert h
  generalize Sem.run Tryz.prog (Op.equalIn 10000 39 (.agg #[.int .i64 a1, .int .i64 a2]) (.agg #[.int .i64 b1, .int .i64 b2])) w = r
  intro h
  cases r with
  | ok v w' => simp [Result.andThen] at h ⊢; simp [h]
  | halt x w' => simp [Result.andThen] at h
theorem ownI_setRow {w : World} {B A : Nat} {v : Value} {l : List I3} (h : IK.Own w B v l) {cs : Array Value} {T : TypeId} {fr : Nat × Nat} (hA : w.heap[A]? = some (.cells cs T fr)) (hT : T ≠ 37) (ds : Array Value) : IK.Own (w.setRow A ds) B v l :=
  h.keepB fun k hk => by
    obtain ⟨_, cs', fr', hc⟩ := h.blk k hk
    simp only [World.setRow]
    rw [Array.getElem?_modify, if_neg]
    rintro rfl
    rw [hA] at hc
    cases hc
    exact hT rfl
/-- What pre comes to. -/
def preV (b : BSt) (m : Mg) (x : Ist) : BSt × List Mg :=
  if 1 < x.st ∧ x.vo = m.bal then (b, [])
  else if x.st < 1 ∨ x.vo ≠ m.bal then
    ({ b with l := setL b.l m.id ⟨1, m.bal, m.bal, m.ins.cm, mrgA m.ins.at' (lclA (knB b.l) m.id m.ins.cm)⟩ }, [ansB b 1 m m.bal ⟨1, m.bal, m.bal, m.ins.cm, mrgA m.ins.at' (lclA (knB b.l) m.id m.ins.cm)⟩])
  else (b, [ansB b 1 m m.bal x])
set_option maxHeartbeats 4000000 in
theorem bpre_none {w : World} {B g mb K : Nat} {b : BSt} (h : BkAt w B g mb K b) {v : Value} {m : Mg} (hm : MgA w v m) (x : Ist) (u : Value) (hr : IK.Rd w u x.at'.2) (hl : x.at'.2.length ≤ 100000) (g1 : 1 < x.st) (g2 : x.vo = m.bal) : Calls Tryz.prog 68 #[bP g, v, .agg (inE x u).toArray] w (HrP (b, []) B g mb K w) := by
  have HMV := Lib.hid hm
  obtain ⟨ua, uc, a1, d1, c1, a2, d2, c2, a3, d3, c3, rfl, hrd, hokl, hid⟩ := hm
  obtain ⟨n0, n1, n2, ⟨n3, n4, n5⟩, ⟨n6, n7⟩, ⟨n8, ⟨n9, n10⟩, ⟨n11, n12⟩, ⟨n13, n14, n15, n16, n17, n18, n19, n20⟩, n21, dl⟩, sn0⟩ := m
  obtain ⟨n23, sn1⟩ : ∃ q, sn0.1.1 = q := ⟨_, rfl⟩
  obtain ⟨M, hM⟩ : ∃ M, dl.length = M := ⟨_, rfl⟩
  have HMl := Lib.hid hM
  simp only at hrd hokl hid
  simp only [msE, inE, snV, hM, sn1, List.cons_append, List.nil_append] at hrd HMV ⊢
  clear hM sn1
  obtain ⟨p0, ⟨p1, p2⟩, ⟨p3, p4⟩, ⟨p5, p6, p7, p8, p9, p10, p11, p12⟩, ps, pl⟩ := x
  simp only at hr hl
  obtain ⟨pa, pk, hsl⟩ := hr.slice
  obtain ⟨P, hP⟩ : ∃ P, pl.length = P := ⟨_, rfl⟩
  rw [hP] at hsl
  subst hsl
  simp only at g1 g2
  obtain ⟨rfl, rfl⟩ := Prod.mk.inj g2
  simp only [inE]
  obtain ⟨X, hX⟩ : ∃ X, (w.alloc (.cells #[.int .i64 n0, .int .i64 n1, .int .i64 n2, .int .i64 n3, .int .i64 n4, .int .i64 n5, .int .i64 p3, .int .i64 p4, .int .i64 n8, .int .i64 n9, .int .i64 n10, .int .i64 n11, .int .i64 n12, .int .i64 n13, .int .i64 n14, .int .i64 n15, .string n16, .string n17, .int .i64 n18, .int .i64 n19, .int .i64 n20, .int .i64 n21, .slice ua M uc, .int .i64 n23, .slice a1 d1 c1, .slice a2 d2 c2, .slice a3 d3 c3] 54)).alloc (.cells #[.int .i64 p0, .int .i64 p1, .int .i64 p2, .int .i64 p3, .int .i64 p4, .int .i64 p5, .int .i64 p6, .int .i64 p7, .string p8, .string p9, .int .i64 p10, .int .i64 p11, .int .i64 p12, .int .i64 ps, .slice pa P pk] 48) = X := ⟨_, rfl⟩
  have hBX : Below w.heap.size w X := by rw [← hX]; exact ((Below.refl _ _).alloc (Nat.le_refl _) _).alloc (by simp) _
  have hMX : Bk X w.heap.size 54 [.int .i64 n0, .int .i64 n1, .int .i64 n2, .int .i64 n3, .int .i64 n4, .int .i64 n5, .int .i64 p3, .int .i64 p4, .int .i64 n8, .int .i64 n9, .int .i64 n10, .int .i64 n11, .int .i64 n12, .int .i64 n13, .int .i64 n14, .int .i64 n15, .string n16, .string n17, .int .i64 n18, .int .i64 n19, .int .i64 n20, .int .i64 n21, .slice ua M uc, .int .i64 n23, .slice a1 d1 c1, .slice a2 d2 c2, .slice a3 d3 c3] := by rw [← hX]; exact (Bk.new w _ _).old _
  have hIX : Bk X (w.heap.size + 1) 48 [.int .i64 p0, .int .i64 p1, .int .i64 p2, .int .i64 p3, .int .i64 p4, .int .i64 p5, .int .i64 p6, .int .i64 p7, .string p8, .string p9, .int .i64 p10, .int .i64 p11, .int .i64 p12, .int .i64 ps, .slice pa P pk] := by rw [← hX]; exact Bk.newA (by simp) _ [.int .i64 p0, .int .i64 p1, .int .i64 p2, .int .i64 p3, .int .i64 p4, .int .i64 p5, .int .i64 p6, .int .i64 p7, .string p8, .string p9, .int .i64 p10, .int .i64 p11, .int .i64 p12, .int .i64 ps, .slice pa P pk]
  have HZX : Hid (w.heap.size + 2 ≤ X.heap.size) := Lib.hid (by rw [← hX]; simp)
  have x6 := hMX.cell 6
  have x7 := hMX.cell 7
  have y0 := hIX.cell 0
  have y3 := hIX.cell 3
  have y4 := hIX.cell 4
  have xl := hMX.lt
  have yl := hIX.lt
  simp only [List.getElem?_cons_zero, List.getElem?_cons_succ] at x6 x7 y0 y3 y4
  have hd1 : decide ((1 : Int) < p0) = true := decide_eq_true g1
  obtain ⟨eb1, gb1⟩ := eqB_runA p3 p4 p3 p4 true (by simp)
  have HFin : Hid (HrP (b, []) B g mb K w (.returned (.slice none 0 0)) X) := Lib.hid ⟨_, Lib.hid rfl, (h.below hBX).mono (Nat.le_succ _), ⟨hBX.os, hBX.tape, hBX.output, hBX.size, fun k hk _ => hBX.block k hk⟩, .inl ⟨rfl, rfl⟩⟩
  clear h hr hl hP hrd hokl hid hBX hMX hIX g2 HZX
  go_enter Tryz.func68, Tryz.ntmps68
  go_wp2
  try rw [hX]
  go_ret
  subst hX
  exact HFin.out
set_option maxHeartbeats 4000000 in
theorem bpre_same {w : World} {B g mb K : Nat} {b : BSt} (h : BkAt w B g mb K b) {v : Value} {m : Mg} (hm : MgA w v m) (x : Ist) (u : Value) (hr : IK.Rd w u x.at'.2) (hl : x.at'.2.length ≤ 100000) (g1 : x.st = 1) (g2 : x.vo = m.bal) : Calls Tryz.prog 68 #[bP g, v, .agg (inE x u).toArray] w (HrP (b, [ansB b 1 m m.bal x]) B g mb K w) := by
  have HMV := Lib.hid hm
  obtain ⟨ua, uc, a1, d1, c1, a2, d2, c2, a3, d3, c3, rfl, hrd, hokl, hid⟩ := hm
  obtain ⟨n0, n1, n2, ⟨n3, n4, n5⟩, ⟨n6, n7⟩, ⟨n8, ⟨n9, n10⟩, ⟨n11, n12⟩, ⟨n13, n14, n15, n16, n17, n18, n19, n20⟩, n21, dl⟩, sn0⟩ := m
  obtain ⟨n23, sn1⟩ : ∃ q, sn0.1.1 = q := ⟨_, rfl⟩
  obtain ⟨M, hM⟩ : ∃ M, dl.length = M := ⟨_, rfl⟩
  have HMl := Lib.hid hM
  simp only at hrd hokl hid
  simp only [msE, inE, snV, hM, sn1, List.cons_append, List.nil_append] at hrd HMV ⊢
  clear hM sn1
  obtain ⟨p0, ⟨p1, p2⟩, ⟨p3, p4⟩, ⟨p5, p6, p7, p8, p9, p10, p11, p12⟩, ps, pl⟩ := x
  simp only at hr hl
  obtain ⟨pa, pk, hsl⟩ := hr.slice
  obtain ⟨P, hP⟩ : ∃ P, pl.length = P := ⟨_, rfl⟩
  rw [hP] at hsl
  subst hsl
  simp only at g1 g2
  obtain ⟨rfl, rfl⟩ := Prod.mk.inj g2
  subst g1
  simp only [inE]
  obtain ⟨X, hX⟩ : ∃ X, (w.alloc (.cells #[.int .i64 n0, .int .i64 n1, .int .i64 n2, .int .i64 n3, .int .i64 n4, .int .i64 n5, .int .i64 p3, .int .i64 p4, .int .i64 n8, .int .i64 n9, .int .i64 n10, .int .i64 n11, .int .i64 n12, .int .i64 n13, .int .i64 n14, .int .i64 n15, .string n16, .string n17, .int .i64 n18, .int .i64 n19, .int .i64 n20, .int .i64 n21, .slice ua M uc, .int .i64 n23, .slice a1 d1 c1, .slice a2 d2 c2, .slice a3 d3 c3] 54)).alloc (.cells #[.int .i64 1, .int .i64 p1, .int .i64 p2, .int .i64 p3, .int .i64 p4, .int .i64 p5, .int .i64 p6, .int .i64 p7, .string p8, .string p9, .int .i64 p10, .int .i64 p11, .int .i64 p12, .int .i64 ps, .slice pa P pk] 48) = X := ⟨_, rfl⟩
  have hBX : Below w.heap.size w X := by rw [← hX]; exact ((Below.refl _ _).alloc (Nat.le_refl _) _).alloc (by simp) _
  have hMX : Bk X w.heap.size 54 [.int .i64 n0, .int .i64 n1, .int .i64 n2, .int .i64 n3, .int .i64 n4, .int .i64 n5, .int .i64 p3, .int .i64 p4, .int .i64 n8, .int .i64 n9, .int .i64 n10, .int .i64 n11, .int .i64 n12, .int .i64 n13, .int .i64 n14, .int .i64 n15, .string n16, .string n17, .int .i64 n18, .int .i64 n19, .int .i64 n20, .int .i64 n21, .slice ua M uc, .int .i64 n23, .slice a1 d1 c1, .slice a2 d2 c2, .slice a3 d3 c3] := by rw [← hX]; exact (Bk.new w _ _).old _
  have hIX : Bk X (w.heap.size + 1) 48 [.int .i64 1, .int .i64 p1, .int .i64 p2, .int .i64 p3, .int .i64 p4, .int .i64 p5, .int .i64 p6, .int .i64 p7, .string p8, .string p9, .int .i64 p10, .int .i64 p11, .int .i64 p12, .int .i64 ps, .slice pa P pk] := by rw [← hX]; exact Bk.newA (by simp) _ [.int .i64 1, .int .i64 p1, .int .i64 p2, .int .i64 p3, .int .i64 p4, .int .i64 p5, .int .i64 p6, .int .i64 p7, .string p8, .string p9, .int .i64 p10, .int .i64 p11, .int .i64 p12, .int .i64 ps, .slice pa P pk]
  have HZX : Hid (w.heap.size + 2 ≤ X.heap.size) := Lib.hid (by rw [← hX]; simp)
  have x6 := hMX.cell 6
  have x7 := hMX.cell 7
  have y0 := hIX.cell 0
  have y3 := hIX.cell 3
  have y4 := hIX.cell 4
  have xl := hMX.lt
  have yl := hIX.lt
  simp only [List.getElem?_cons_zero, List.getElem?_cons_succ] at x6 x7 y0 y3 y4
  have nb1 := neB_runA p3 p4 p3 p4 true (by simp)
  obtain ⟨_, gb1⟩ := eqB_runA p3 p4 p3 p4 true (by simp)
  have HMXh := Lib.hid hMX
  have HIXh := Lib.hid hIX
  have hBk := h.below hBX
  have HBk := Lib.hid hBk
  have HAn := Lib.hid (banswer_any hBk 1 (HMV.out.below hBX) ⟨1, (p1, p2), (p3, p4), ⟨p5, p6, p7, p8, p9, p10, p11, p12⟩, (ps, pl)⟩ (.slice pa P pk) (hr.below hBX) hl)
  simp only [inE] at HAn
  have HG : Hid (w.grownBy X (some mb)) := Lib.hid ⟨hBX.os, hBX.tape, hBX.output, hBX.size, fun k hk _ => hBX.block k hk⟩
  clear h hr hl hP hrd hokl hid hBX hMX hIX g2 HZX hBk
  go_enter Tryz.func68, Tryz.ntmps68
  go_wp2_with (first
    | refine wpList_load_rowG rfl _ _ rfl w.heap.size rfl 54 _ (0, 0) _ HMXh.out Tryz.underlying54 rfl (by kernel_rfl) ?_
    | refine wpList_load_rowG rfl _ _ rfl (w.heap.size + 1) rfl 48 _ (0, 0) _ HIXh.out Tryz.underlying48 rfl infoIn ?_
    | fail)
  try rw [hX]
  refine HAn.out.mono ?_
  rintro e w7 ⟨g', u', he, hq1, hq2, hq3, hb6⟩
  rw [he.out]
  have HFin : Hid (HrP (b, [ansB b 1 ⟨n0, n1, n2, (n3, n4, n5), (p3, p4), ⟨n8, (n9, n10), (n11, n12), ⟨n13, n14, n15, n16, n17, n18, n19, n20⟩, (n21, dl)⟩, sn0⟩ (p3, p4) ⟨1, (p1, p2), (p3, p4), ⟨p5, p6, p7, p8, p9, p10, p11, p12⟩, (ps, pl)⟩]) B g mb K w (.returned (.slice (some ⟨g', 0, none⟩) 1 1)) w7) := Lib.hid (hrP_ans (N := 0) ⟨g', u', Lib.hid rfl, hq1, hq2, hq3, hb6⟩ (HBk.out.mono (Nat.le_succ _)) HG.out)
  clear he hq1 hq2 hq3 hb6
  go_wp2
  go_ret
  exact HFin.out
end Go.Proofs.YtchhcaoondfpiaaGreat
namespace Go.Proofs.YtchhcaoondfpiaaGreat
open Go.RowKit Go.Sort
open Go.WideMaps
set_option linter.unusedSimpArgs false
set_option linter.unusedVariables false
set_option maxRecDepth 100000

def preW (b : BSt) (m : Mg) (a : At) : BSt × List Mg := ({ b with l := setL b.l m.id ⟨1, m.bal, m.bal, m.ins.cm, a⟩ }, [ansB b 1 m m.bal ⟨1, m.bal, m.bal, m.ins.cm, a⟩])
theorem putI_len (a : List I3) (x : I3) : (putI a x).length ≤ a.length + 1 := by
  unfold putI
  split
  · omega
  · have h := congrArg List.length (List.takeWhile_append_dropWhile (p := fun y => !ltI x y) (l := a))
    rw [List.length_append] at h
    rw [List.length_append, List.length_cons]
    omega
theorem clnI_len (l : List I3) : (clnI l).length ≤ l.length := by
  unfold clnI
  have : ∀ (l a : List I3), (l.foldl putI a).length ≤ a.length + l.length := by
    intro l
    induction l with
    | nil => intro a; simp
    | cons x l ih =>
      intro a
      rw [List.foldl_cons]
      have h1 := ih (putI a x)
      have h2 := putI_len a x
      simp only [List.length_cons]
      omega
  have h := this l []
  simpa using h
theorem lcl_few {l : List (I3 × Ist)} (ho : okB l) {id : I3} {c : CM} {ls : Int} {ll : List I3} (h : lclA (knB l) id c = (ls, ll)) (hl : (knB l).length ≤ 800) : ll.length ≤ 800 ∧ okL ll := by
  have e : ll = clnI (((knB l).filter (matK id c)).map (·.id)) := (congrArg Prod.snd h).symm
  subst e
  refine ⟨?_, okL_cln fun x hx => ?_⟩
  · have h1 := clnI_len (((knB l).filter (matK id c)).map (·.id))
    rw [List.length_map] at h1
    have h2 := List.length_filter_le (matK id c) (knB l)
    omega
  · obtain ⟨k, hk, rfl⟩ := List.mem_map.1 hx
    have hk1 := (List.mem_filter.1 hk).1
    unfold knB at hk1
    obtain ⟨e, he, rfl⟩ := List.mem_map.1 hk1
    exact ho e (List.mem_filter.1 he).1
theorem mrg_len (a b : At) : (mrgA a b).2.length ≤ a.2.length + b.2.length := by
  rw [mrg_eq]
  simp only
  have := clnI_len (a.2 ++ b.2)
  rw [List.length_append] at this
  exact this
end Go.Proofs.YtchhcaoondfpiaaGreat
