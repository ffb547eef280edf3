/-
  Package code: messages and records as they come in.
-/
import Derived.Test.YtllcmapgigfgoaaCd4
namespace Go.Proofs.Ytllcmapgigfgoaa
open Go.ChangeShapes Go.WideShapes Go.ChangeAt Go.RowKit Go.Joins Go.Deep
set_option linter.unusedSimpArgs false
set_option linter.unusedVariables false
set_option maxRecDepth 100000

theorem opens_num {P : Program} {t : TypeId} (ht : P.underlying t = some (.int .i64)) : Opens P t numS := (opens_int ht).to id (fun _ _ _ h => h.1)
theorem opens_tx {P : Program} {t : TypeId} (ht : P.underlying t = some .string) : Opens P t txS := (opens_str ht).to id (fun _ _ _ h => h)
def balS : Shp Bal := pairS numS numS
def cmS : Shp Cmd8 := pairS numS (pairS numS (pairS numS (pairS txS (pairS txS (pairS numS (pairS numS numS))))))
noncomputable def atS : Shp Att := pairS numS (rowS KI idS)
noncomputable def inS : Shp Ins := pairS numS (pairS balS (pairS balS (pairS cmS atS)))
noncomputable def cfS : Shp Cfg := pairS numS (rowS KN numS)
noncomputable def snS : Shp Snp := pairS cfS (pairS (rowS KE enS) (rowS KZ seS))
noncomputable def msS : Shp Msg7 := pairS numS (pairS numS (pairS numS (pairS idS (pairS balS (pairS inS snS)))))
noncomputable def rcS : Shp (Bool × Id3 × Ins × Snp) := pairS boolS (pairS idS (pairS inS snS))
theorem opens_id : Opens Try.prog 24 idS :=
  (opens_struct (P := Try.prog) (S := pairS numS (pairS numS numS)) Try.underlying24 (n := 3) (by kernel_rfl) (opensF_cons _ rfl rfl (k := 1) (by kernel_rfl) (opens_num Try.underlying3) (opensF_cons _ rfl rfl (k := 1) (by kernel_rfl) (opens_num Try.underlying3) (opensF_last _ rfl rfl (k := 1) (by kernel_rfl) rfl (opens_num Try.underlying3))))).to id (fun w cs x h => by
      obtain ⟨c1, c2, e, h1, d1, d2, e2, h2, h3⟩ := h
      subst h1 h2 h3 e2
      exact e)
theorem opens_en : Opens Try.prog 110 enS :=
  (opens_struct (P := Try.prog) (S := pairS txS (pairS txS numS)) Try.underlying110 (n := 3) (by kernel_rfl) (opensF_cons _ rfl rfl (k := 1) (by kernel_rfl) (opens_tx Try.underlying9) (opensF_cons _ rfl rfl (k := 1) (by kernel_rfl) (opens_tx Try.underlying9) (opensF_last _ rfl rfl (k := 1) (by kernel_rfl) rfl (opens_num Try.underlying3))))).to id (fun w cs x h => by
      obtain ⟨c1, c2, e, ⟨h1, s1⟩, d1, d2, e2, ⟨h2, s2⟩, h3⟩ := h
      subst h1 h2 h3 e2
      exact ⟨e, s1, s2⟩)
theorem opens_ids : Opens Try.prog 31 (rowS KI idS) := opens_row KI rfl rfl rfl (by kernel_rfl) opens_id
theorem opens_ints : Opens Try.prog 36 (rowS KN numS) := opens_row KN rfl rfl rfl (by kernel_rfl) (opens_num Try.underlying3)
theorem opens_strs : Opens Try.prog 111 (rowS KT txS) := opens_row KT rfl rfl rfl (by kernel_rfl) (opens_tx Try.underlying9)
theorem opens_ens : Opens Try.prog 39 (rowS KE enS) := opens_row KE rfl rfl rfl (by kernel_rfl) opens_en
noncomputable def rpS : Shp Rpl := pairS numS (pairS txS (pairS numS (rowS KT txS)))
theorem opens_rp : Opens Try.prog 113 rpS :=
  opens_struct (P := Try.prog) (S := rpS) Try.underlying113 (n := 4) (by kernel_rfl) (opensF_cons _ rfl rfl (k := 1) (by kernel_rfl) (opens_num Try.underlying50) (opensF_cons _ rfl rfl (k := 1) (by kernel_rfl) (opens_tx Try.underlying9) (opensF_cons _ rfl rfl (k := 1) (by kernel_rfl) (opens_num Try.underlying3) (opensF_last _ rfl rfl (k := 1) (by kernel_rfl) rfl opens_strs))))
theorem opens_se : Opens Try.prog 115 seS :=
  (opens_struct (P := Try.prog) (S := pairS numS (pairS numS rpS)) Try.underlying115 (n := 6) (by kernel_rfl) (opensF_cons _ rfl rfl (k := 1) (by kernel_rfl) (opens_num Try.underlying3) (opensF_cons _ rfl rfl (k := 1) (by kernel_rfl) (opens_num Try.underlying3) (opensF_last _ rfl rfl (k := 4) (by kernel_rfl) rfl opens_rp)))).to id (fun w cs x h => by
      obtain ⟨c1, c2, e, h1, d1, d2, e2, h2, e1', e2', e3, h3, f1, f2, e4, ⟨h4, s4⟩, g1, g2, e5, h5, v, rs, h6, h7⟩ := h
      subst h1 h2 h3 h4 h5 h6 e5 e4 e3 e2
      exact ⟨v, rs, e, s4, h7⟩)
theorem opens_ses : Opens Try.prog 40 (rowS KZ seS) := opens_row KZ rfl rfl rfl (by kernel_rfl) opens_se
theorem opens_bal : Opens Try.prog 26 balS :=
  opens_struct (P := Try.prog) (S := balS) Try.underlying26 (n := 2) (by kernel_rfl) (opensF_cons _ rfl rfl (k := 1) (by kernel_rfl) (opens_num Try.underlying3) (opensF_last _ rfl rfl (k := 1) (by kernel_rfl) rfl (opens_num Try.underlying3)))
theorem opens_cm : Opens Try.prog 30 cmS :=
  opens_struct (P := Try.prog) (S := cmS) Try.underlying30 (n := 8) (by kernel_rfl) (opensF_cons _ rfl rfl (k := 1) (by kernel_rfl) (opens_num Try.underlying3) (opensF_cons _ rfl rfl (k := 1) (by kernel_rfl) (opens_num Try.underlying3) (opensF_cons _ rfl rfl (k := 1) (by kernel_rfl) (opens_num Try.underlying28) (opensF_cons _ rfl rfl (k := 1) (by kernel_rfl) (opens_tx Try.underlying9) (opensF_cons _ rfl rfl (k := 1) (by kernel_rfl) (opens_tx Try.underlying9) (opensF_cons _ rfl rfl (k := 1) (by kernel_rfl) (opens_num Try.underlying3) (opensF_cons _ rfl rfl (k := 1) (by kernel_rfl) (opens_num Try.underlying3) (opensF_last _ rfl rfl (k := 1) (by kernel_rfl) rfl (opens_num Try.underlying3)))))))))
theorem opens_at : Opens Try.prog 33 atS :=
  opens_struct (P := Try.prog) (S := atS) Try.underlying33 (n := 2) (by kernel_rfl) (opensF_cons _ rfl rfl (k := 1) (by kernel_rfl) (opens_num Try.underlying3) (opensF_last _ rfl rfl (k := 1) (by kernel_rfl) rfl opens_ids))
theorem opens_in : Opens Try.prog 35 inS :=
  opens_struct (P := Try.prog) (S := inS) Try.underlying35 (n := 15) (by kernel_rfl) (opensF_cons _ rfl rfl (k := 1) (by kernel_rfl) (opens_num Try.underlying27) (opensF_cons _ rfl rfl (k := 2) (by kernel_rfl) opens_bal (opensF_cons _ rfl rfl (k := 2) (by kernel_rfl) opens_bal (opensF_cons _ rfl rfl (k := 8) (by kernel_rfl) opens_cm (opensF_last _ rfl rfl (k := 2) (by kernel_rfl) rfl opens_at)))))
theorem opens_cf : Opens Try.prog 38 cfS :=
  opens_struct (P := Try.prog) (S := cfS) Try.underlying38 (n := 2) (by kernel_rfl) (opensF_cons _ rfl rfl (k := 1) (by kernel_rfl) (opens_num Try.underlying3) (opensF_last _ rfl rfl (k := 1) (by kernel_rfl) rfl opens_ints))
theorem opens_sn : Opens Try.prog 42 snS :=
  opens_struct (P := Try.prog) (S := snS) Try.underlying42 (n := 4) (by kernel_rfl) (opensF_cons _ rfl rfl (k := 2) (by kernel_rfl) opens_cf (opensF_cons _ rfl rfl (k := 1) (by kernel_rfl) opens_ens (opensF_last _ rfl rfl (k := 1) (by kernel_rfl) rfl opens_ses)))
theorem opens_ms : Opens Try.prog 44 msS :=
  opens_struct (P := Try.prog) (S := msS) Try.underlying44 (n := 27) (by kernel_rfl) (opensF_cons _ rfl rfl (k := 1) (by kernel_rfl) (opens_num Try.underlying22) (opensF_cons _ rfl rfl (k := 1) (by kernel_rfl) (opens_num Try.underlying3) (opensF_cons _ rfl rfl (k := 1) (by kernel_rfl) (opens_num Try.underlying3) (opensF_cons _ rfl rfl (k := 3) (by kernel_rfl) opens_id (opensF_cons _ rfl rfl (k := 2) (by kernel_rfl) opens_bal (opensF_cons _ rfl rfl (k := 15) (by kernel_rfl) opens_in (opensF_last _ rfl rfl (k := 4) (by kernel_rfl) rfl opens_sn)))))))
theorem opens_rc : Opens Try.prog 46 rcS :=
  opens_struct (P := Try.prog) (S := rcS) Try.underlying46 (n := 23) (by kernel_rfl) (opensF_cons _ rfl rfl (k := 1) (by kernel_rfl) (opens_bool Try.underlying4) (opensF_cons _ rfl rfl (k := 3) (by kernel_rfl) opens_id (opensF_cons _ rfl rfl (k := 15) (by kernel_rfl) opens_in (opensF_last _ rfl rfl (k := 4) (by kernel_rfl) rfl opens_sn))))
/-- The cells of an instance. -/
def inV (x : Ins) (u : Value) : List Value := [.int .i64 x.1, .int .i64 x.2.1.1, .int .i64 x.2.1.2, .int .i64 x.2.2.1.1, .int .i64 x.2.2.1.2, .int .i64 x.2.2.2.1.1, .int .i64 x.2.2.2.1.2.1, .int .i64 x.2.2.2.1.2.2.1, .string x.2.2.2.1.2.2.2.1, .string x.2.2.2.1.2.2.2.2.1, .int .i64 x.2.2.2.1.2.2.2.2.2.1, .int .i64 x.2.2.2.1.2.2.2.2.2.2.1, .int .i64 x.2.2.2.1.2.2.2.2.2.2.2, .int .i64 x.2.2.2.2.1, u]
def snV (x : Snp) (u1 u2 u3 : Value) : List Value := [.int .i64 x.1.1, u1, u2, u3]
theorem row_is {k : Nat} {K : Knd Try.prog (Cls k)} {α : Type} {S : Shp α} {W : World} {cs : List Value} {l : List α} (h : (rowS K S).is W cs l) : ∃ a m c rs, cs = [.slice a m c] ∧ RowIs K S W (.slice a m c) rs l := by
  obtain ⟨v, rs, e, h⟩ := h
  obtain ⟨a, c, e2⟩ := h.rd.slice
  subst e2
  exact ⟨a, _, c, rs, e, h⟩
theorem in_is {W : World} {cs : List Value} {x : Ins} (h : inS.is W cs x) : ∃ a m c rs, cs = inV x (.slice a m c) ∧ x.2.2.2.1.2.2.2.1.size ≤ maxLen ∧ x.2.2.2.1.2.2.2.2.1.size ≤ maxLen ∧ RowIs KI idS W (.slice a m c) rs x.2.2.2.2.2 := by
  obtain ⟨_, _, e0, h0, _, _, e1, ⟨_, _, p0, p1, p2⟩, _, _, e2, ⟨_, _, q0, q1, q2⟩, _, _, e3, ⟨_, _, r0, r1, _, _, s0, r2, _, _, t0, r3, _, _, u0, ⟨r4, z4⟩, _, _, v0, ⟨r5, z5⟩, _, _, w0, r6, _, _, x0, r7, r8⟩, _, _, y0, y1, hr⟩ := h
  obtain ⟨a, m, c, rs, e5, h5⟩ := row_is hr
  subst h0 p1 p2 p0 q1 q2 q0 r1 r2 r3 r4 r5 r6 r7 r8 x0 w0 v0 u0 t0 s0 r0 y1 e5 y0 e3 e2 e1
  exact ⟨a, m, c, rs, e0, z4, z5, h5⟩
theorem sn_is {W : World} {cs : List Value} {x : Snp} (h : snS.is W cs x) : ∃ a1 m1 c1 rs1 a2 m2 c2 rs2 a3 m3 c3 rs3, cs = snV x (.slice a1 m1 c1) (.slice a2 m2 c2) (.slice a3 m3 c3) ∧ RowIs KN numS W (.slice a1 m1 c1) rs1 x.1.2 ∧ RowIs KE enS W (.slice a2 m2 c2) rs2 x.2.1 ∧ RowIs KZ seS W (.slice a3 m3 c3) rs3 x.2.2 := by
  obtain ⟨_, _, e0, ⟨_, _, f0, h0, hr1⟩, _, _, e1, hr2, hr3⟩ := h
  obtain ⟨a1, m1, c1, rs1, g1, k1⟩ := row_is hr1
  obtain ⟨a2, m2, c2, rs2, g2, k2⟩ := row_is hr2
  obtain ⟨a3, m3, c3, rs3, g3, k3⟩ := row_is hr3
  subst h0 g1 g2 g3 f0 e1
  exact ⟨a1, m1, c1, rs1, a2, m2, c2, rs2, a3, m3, c3, rs3, e0, k1, k2, k3⟩
def idV (x : Id3) : List Value := [.int .i64 x.1, .int .i64 x.2.1, .int .i64 x.2.2]
/-- The cells of a message. -/
def msV (x : Msg7) (u0 u1 u2 u3 : Value) : List Value := [.int .i64 x.1, .int .i64 x.2.1, .int .i64 x.2.2.1, .int .i64 x.2.2.2.1.1, .int .i64 x.2.2.2.1.2.1, .int .i64 x.2.2.2.1.2.2, .int .i64 x.2.2.2.2.1.1, .int .i64 x.2.2.2.2.1.2] ++ (inV x.2.2.2.2.2.1 u0 ++ snV x.2.2.2.2.2.2 u1 u2 u3)
theorem ms_is {W : World} {cs : List Value} {x : Msg7} (h : msS.is W cs x) : ∃ a0 m0 c0 rs0 a1 m1 c1 rs1 a2 m2 c2 rs2 a3 m3 c3 rs3, cs = msV x (.slice a0 m0 c0) (.slice a1 m1 c1) (.slice a2 m2 c2) (.slice a3 m3 c3) ∧ x.2.2.2.2.2.1.2.2.2.1.2.2.2.1.size ≤ maxLen ∧ x.2.2.2.2.2.1.2.2.2.1.2.2.2.2.1.size ≤ maxLen ∧ RowIs KI idS W (.slice a0 m0 c0) rs0 x.2.2.2.2.2.1.2.2.2.2.2 ∧ RowIs KN numS W (.slice a1 m1 c1) rs1 x.2.2.2.2.2.2.1.2 ∧ RowIs KE enS W (.slice a2 m2 c2) rs2 x.2.2.2.2.2.2.2.1 ∧ RowIs KZ seS W (.slice a3 m3 c3) rs3 x.2.2.2.2.2.2.2.2 := by
  obtain ⟨_, _, e0, h0, _, _, e1, h1, _, _, e2, h2, _, _, e3, h3, _, _, e4, ⟨_, _, p0, p1, p2⟩, _, _, e5, hi, hs⟩ := h
  obtain ⟨a0, m0, c0, rs0, g0, z4, z5, k0⟩ := in_is hi
  obtain ⟨a1, m1, c1, rs1, a2, m2, c2, rs2, a3, m3, c3, rs3, g1, k1, k2, k3⟩ := sn_is hs
  have h3 : _ = idE _ := h3
  subst h0 h1 h2 h3 p1 p2 p0 g0 g1 e5 e4 e3 e2 e1
  exact ⟨a0, m0, c0, rs0, a1, m1, c1, rs1, a2, m2, c2, rs2, a3, m3, c3, rs3, e0, z4, z5, k0, k1, k2, k3⟩
/-- A message: its value, and what it is. -/
def MsgIs (W : World) (v : Value) (x : Msg7) : Prop := ∃ cs, v = .agg cs ∧ msS.is W cs.toList x
theorem MsgIs.on {W w : World} {v : Value} {x : Msg7} (h : MsgIs W v x) (hb : Below W.heap.size W w) : MsgIs w v x := by
  obtain ⟨cs, e, h⟩ := h
  exact ⟨cs, e, msS.keep h hb⟩
theorem msg_of_arg {H : Type} {enc : TypeId × Value → H} {w : World} {r : Reach} {b0 base : Nat} {spare : Nat → Bool} {held : Bool} {v : Value} {d : DataW H} {p : List MemPlace}
    (hv : Value.okWide Try.prog w r b0 44 v) (h : DataW.Trod enc Try.prog w base spare held 44 v d p) : ∃ x, MsgIs w v x := by
  obtain ⟨cs, x, rfl, hx⟩ := arg_struct Try.underlying44 opens_ms hv h
  exact ⟨x, cs, rfl, hx⟩
def RecIs (W : World) (v : Value) (x : Bool × Id3 × Ins × Snp) : Prop := ∃ cs, v = .agg cs ∧ rcS.is W cs.toList x
theorem rec_of_arg {H : Type} {enc : TypeId × Value → H} {w : World} {r : Reach} {b0 base : Nat} {spare : Nat → Bool} {held : Bool} {v : Value} {d : DataW H} {p : List MemPlace}
    (hv : Value.okWide Try.prog w r b0 46 v) (h : DataW.Trod enc Try.prog w base spare held 46 v d p) : ∃ x, RecIs w v x := by
  obtain ⟨cs, x, rfl, hx⟩ := arg_struct Try.underlying46 opens_rc hv h
  exact ⟨x, cs, rfl, hx⟩
end Go.Proofs.Ytllcmapgigfgoaa
