/-
  Messages as they come in.
-/
import Derived.Test.YtchhcaoondfpiaaGreatAt0
namespace Go.Proofs.YtchhcaoondfpiaaGreat
open Go.ChangeShapes Go.WideShapes Go.ChangeAt Go.RowKit Go.Joins Go.Deep
set_option linter.unusedSimpArgs false
set_option linter.unusedVariables false
set_option maxRecDepth 100000

abbrev Bal := Int × Int
abbrev Ent := ByteArray × ByteArray × Int
abbrev Rpl := Int × ByteArray × Int × List ByteArray
abbrev Ses := Int × Int × Rpl
abbrev Cfg := Int × List Int
abbrev Snp := Cfg × List Ent × List Ses
/-- The same, at a later world. -/
theorem RowIs.el2 {P : Program} {k : Nat} {R : Knd P (Cls k)} (hR : R.enc = Cls.cs) {α : Type} {S : Shp α} {W w : World} {a : Option Addr} {n c : Nat} {rs : List (Cls k)} {l : List α} (h : RowIs R S W (.slice a n c) rs l) (hb : Below W.heap.size W w) (j : Nat) (hj : j < n) :
    ∃ (hl : j < l.length) (g off : Nat) (cs : List Value), a = some ⟨g, off, none⟩ ∧ g < w.heap.size ∧ S.is W cs l[j] ∧ ∀ i u, cs[i]? = some u → w.cell? ⟨g, off + j * R.k + i, none⟩ = some u := by
  obtain ⟨_, hl, g, off, cs, ha, hg, hcs, hc⟩ := h.el hR j hj
  exact ⟨hl, g, off, cs, ha, Nat.lt_of_lt_of_le hg hb.size, hcs, fun i u hu => (hb.cell (p := ⟨g, off + j * R.k + i, none⟩) hg).trans (hc i u hu)⟩
def enE (x : Ent) : List Value := [.string x.1, .string x.2.1, .int .i64 x.2.2]
def seE (x : Ses) (v : Value) : List Value := [.int .i64 x.1, .int .i64 x.2.1, .int .i64 x.2.2.1, .string x.2.2.2.1, .int .i64 x.2.2.2.2.1, v]
def numS : Shp Int where
  is := fun _ cs n => cs = [.int .i64 n]
  keep := fun h _ => h
  one := fun h v hv => by rw [h] at hv; simp at hv; subst hv; rfl
def txS : Shp ByteArray where
  is := fun _ cs n => cs = [.string n] ∧ n.size ≤ maxLen
  keep := fun h _ => h
  one := fun h v hv => by rw [h.1] at hv; simp at hv; subst hv; rfl
def enS : Shp Ent where
  is := fun _ cs x => cs = enE x ∧ x.1.size ≤ maxLen ∧ x.2.1.size ≤ maxLen
  keep := fun h _ => h
  one := fun h v hv => by rw [h.1] at hv; simp [enE] at hv; rcases hv with rfl | rfl | rfl <;> rfl
def clsN : Cls 1 := ⟨[.int .i64 0], rfl, by intro v hv; simp at hv; subst hv; rfl⟩
def clsT : Cls 1 := ⟨[.string ⟨#[]⟩], rfl, by intro v hv; simp at hv; subst hv; rfl⟩
def clsE : Cls 3 := ⟨[.string ⟨#[]⟩, .string ⟨#[]⟩, .int .i64 0], rfl, by intro v hv; simp at hv; rcases hv with rfl | rfl <;> rfl⟩
def clsZ : Cls 6 := ⟨[.int .i64 0, .int .i64 0, .int .i64 0, .string ⟨#[]⟩, .int .i64 0, .slice none 0 0], rfl, by intro v hv; simp only [List.mem_cons, List.not_mem_nil, or_false] at hv; rcases hv with rfl | rfl | rfl | rfl | rfl | rfl <;> rfl⟩
noncomputable def KN : Knd Tryz.prog (Cls 1) := rawK Tryz.prog 3 22 1 8 (.int .i64 0) Tryz.underlying22 (by kernel_rfl) rfl (by omega) (by omega) clsN
noncomputable def KT : Knd Tryz.prog (Cls 1) := rawK Tryz.prog 9 123 1 16 (.string ⟨#[]⟩) Tryz.underlying123 (by kernel_rfl) rfl (by omega) (by omega) clsT
noncomputable def KE : Knd Tryz.prog (Cls 3) := rawK Tryz.prog 121 49 3 40 (.agg #[.string ⟨#[]⟩, .string ⟨#[]⟩, .int .i64 0]) Tryz.underlying49 (by kernel_rfl) rfl (by omega) (by omega) clsE
noncomputable def KZ : Knd Tryz.prog (Cls 6) := rawK Tryz.prog 127 50 6 72 (.agg #[.int .i64 0, .int .i64 0, .int .i64 0, .string ⟨#[]⟩, .int .i64 0, .slice none 0 0]) Tryz.underlying50 (by kernel_rfl) rfl (by omega) (by omega) clsZ
def seS : Shp Ses where
  is := fun w cs x => ∃ v rs, cs = seE x v ∧ x.2.2.2.1.size ≤ maxLen ∧ RowIs KT txS w v rs x.2.2.2.2.2
  keep := fun ⟨v, rs, h1, h2, h3⟩ hb => ⟨v, rs, h1, h2, h3.on hb⟩
  one := fun ⟨v, rs, h1, h2, h3⟩ u hu => by
    obtain ⟨a, c, e⟩ := h3.rd.slice
    rw [h1] at hu
    simp [seE] at hu
    rcases hu with rfl | rfl | rfl | rfl | rfl | rfl
    all_goals first | rfl | (rw [e]; rfl)
theorem opens_num {P : Program} {t : TypeId} (ht : P.underlying t = some (.int .i64)) : Opens P t numS := (opens_int ht).to id (fun _ _ _ h => h.1)
theorem opens_tx {P : Program} {t : TypeId} (ht : P.underlying t = some .string) : Opens P t txS := (opens_str ht).to id (fun _ _ _ h => h)
def balS : Shp Bal := pairS numS numS
noncomputable def cfS : Shp Cfg := pairS numS (rowS KN numS)
noncomputable def snS : Shp Snp := pairS cfS (pairS (rowS KE enS) (rowS KZ seS))
theorem opens_en : Opens Tryz.prog 121 enS :=
  (opens_struct (P := Tryz.prog) (S := pairS txS (pairS txS numS)) Tryz.underlying121 (n := 3) (by kernel_rfl) (opensF_cons _ rfl rfl (k := 1) (by kernel_rfl) (opens_tx Tryz.underlying9) (opensF_cons _ rfl rfl (k := 1) (by kernel_rfl) (opens_tx Tryz.underlying9) (opensF_last _ rfl rfl (k := 1) (by kernel_rfl) rfl (opens_num Tryz.underlying3))))).to id (fun w cs x h => by
      obtain ⟨c1, c2, e, ⟨h1, s1⟩, d1, d2, e2, ⟨h2, s2⟩, h3⟩ := h
      subst h1 h2 h3 e2
      exact ⟨e, s1, s2⟩)
theorem opens_ints : Opens Tryz.prog 22 (rowS KN numS) := opens_row KN rfl rfl rfl (by kernel_rfl) (opens_num Tryz.underlying3)
theorem opens_strs : Opens Tryz.prog 123 (rowS KT txS) := opens_row KT rfl rfl rfl (by kernel_rfl) (opens_tx Tryz.underlying9)
theorem opens_ens : Opens Tryz.prog 49 (rowS KE enS) := opens_row KE rfl rfl rfl (by kernel_rfl) opens_en
noncomputable def rpS : Shp Rpl := pairS numS (pairS txS (pairS numS (rowS KT txS)))
theorem opens_rp : Opens Tryz.prog 125 rpS :=
  opens_struct (P := Tryz.prog) (S := rpS) Tryz.underlying125 (n := 4) (by kernel_rfl) (opensF_cons _ rfl rfl (k := 1) (by kernel_rfl) (opens_num Tryz.underlying122) (opensF_cons _ rfl rfl (k := 1) (by kernel_rfl) (opens_tx Tryz.underlying9) (opensF_cons _ rfl rfl (k := 1) (by kernel_rfl) (opens_num Tryz.underlying3) (opensF_last _ rfl rfl (k := 1) (by kernel_rfl) rfl opens_strs))))
theorem opens_se : Opens Tryz.prog 127 seS :=
  (opens_struct (P := Tryz.prog) (S := pairS numS (pairS numS rpS)) Tryz.underlying127 (n := 6) (by kernel_rfl) (opensF_cons _ rfl rfl (k := 1) (by kernel_rfl) (opens_num Tryz.underlying3) (opensF_cons _ rfl rfl (k := 1) (by kernel_rfl) (opens_num Tryz.underlying3) (opensF_last _ rfl rfl (k := 4) (by kernel_rfl) rfl opens_rp)))).to id (fun w cs x h => by
      obtain ⟨c1, c2, e, h1, d1, d2, e2, h2, e1', e2', e3, h3, f1, f2, e4, ⟨h4, s4⟩, g1, g2, e5, h5, v, rs, h6, h7⟩ := h
      subst h1 h2 h3 h4 h5 h6 e5 e4 e3 e2
      exact ⟨v, rs, e, s4, h7⟩)
theorem opens_ses : Opens Tryz.prog 50 (rowS KZ seS) := opens_row KZ rfl rfl rfl (by kernel_rfl) opens_se
theorem opens_bal : Opens Tryz.prog 39 balS :=
  opens_struct (P := Tryz.prog) (S := balS) Tryz.underlying39 (n := 2) (by kernel_rfl) (opensF_cons _ rfl rfl (k := 1) (by kernel_rfl) (opens_num Tryz.underlying3) (opensF_last _ rfl rfl (k := 1) (by kernel_rfl) rfl (opens_num Tryz.underlying3)))
theorem opens_cf : Opens Tryz.prog 24 cfS :=
  opens_struct (P := Tryz.prog) (S := cfS) Tryz.underlying24 (n := 2) (by kernel_rfl) (opensF_cons _ rfl rfl (k := 1) (by kernel_rfl) (opens_num Tryz.underlying3) (opensF_last _ rfl rfl (k := 1) (by kernel_rfl) rfl opens_ints))
theorem opens_sn : Opens Tryz.prog 52 snS :=
  opens_struct (P := Tryz.prog) (S := snS) Tryz.underlying52 (n := 4) (by kernel_rfl) (opensF_cons _ rfl rfl (k := 2) (by kernel_rfl) opens_cf (opensF_cons _ rfl rfl (k := 1) (by kernel_rfl) opens_ens (opensF_last _ rfl rfl (k := 1) (by kernel_rfl) rfl opens_ses)))
def snV (x : Snp) (u1 u2 u3 : Value) : List Value := [.int .i64 x.1.1, u1, u2, u3]
theorem row_is {k : Nat} {K : Knd Tryz.prog (Cls k)} {α : Type} {S : Shp α} {W : World} {cs : List Value} {l : List α} (h : (rowS K S).is W cs l) : ∃ a m c rs, cs = [.slice a m c] ∧ RowIs K S W (.slice a m c) rs l := by
  obtain ⟨v, rs, e, h⟩ := h
  obtain ⟨a, c, e2⟩ := h.rd.slice
  subst e2
  exact ⟨a, _, c, rs, e, h⟩
theorem sn_is {W : World} {cs : List Value} {x : Snp} (h : snS.is W cs x) : ∃ a1 m1 c1 rs1 a2 m2 c2 rs2 a3 m3 c3 rs3, cs = snV x (.slice a1 m1 c1) (.slice a2 m2 c2) (.slice a3 m3 c3) ∧ RowIs KN numS W (.slice a1 m1 c1) rs1 x.1.2 ∧ RowIs KE enS W (.slice a2 m2 c2) rs2 x.2.1 ∧ RowIs KZ seS W (.slice a3 m3 c3) rs3 x.2.2 := by
  obtain ⟨_, _, e0, ⟨_, _, f0, h0, hr1⟩, _, _, e1, hr2, hr3⟩ := h
  obtain ⟨a1, m1, c1, rs1, g1, k1⟩ := row_is hr1
  obtain ⟨a2, m2, c2, rs2, g2, k2⟩ := row_is hr2
  obtain ⟨a3, m3, c3, rs3, g3, k3⟩ := row_is hr3
  subst h0 g1 g2 g3 f0 e1
  exact ⟨a1, m1, c1, rs1, a2, m2, c2, rs2, a3, m3, c3, rs3, e0, k1, k2, k3⟩
def cmZ : Shp CM where
  is := fun _ cs t => cs = cmE t ∧ t.pa.size ≤ maxLen ∧ t.va.size ≤ maxLen
  keep := fun h _ => h
  one := fun {w cs x} h => by rw [h.1]; exact cmE_one x
theorem opens_cmZ : Opens Tryz.prog 43 cmZ :=
  (opens_struct (P := Tryz.prog) (S := pairS intS (pairS intS (pairS intS (pairS strS (pairS strS (pairS intS (pairS intS intS))))))) Tryz.underlying43 (n := 8) (by kernel_rfl)
    (opensF_cons _ rfl rfl (k := 1) (by kernel_rfl) (opens_int Tryz.underlying3) (opensF_cons _ rfl rfl (k := 1) (by kernel_rfl) (opens_int Tryz.underlying3) (opensF_cons _ rfl rfl (k := 1) (by kernel_rfl) (opens_int Tryz.underlying41)
    (opensF_cons _ rfl rfl (k := 1) (by kernel_rfl) (opens_str Tryz.underlying9) (opensF_cons _ rfl rfl (k := 1) (by kernel_rfl) (opens_str Tryz.underlying9) (opensF_cons _ rfl rfl (k := 1) (by kernel_rfl) (opens_int Tryz.underlying3)
    (opensF_cons _ rfl rfl (k := 1) (by kernel_rfl) (opens_int Tryz.underlying3) (opensF_last _ rfl rfl (k := 1) (by kernel_rfl) rfl (opens_int Tryz.underlying3)))))))))).to (fun x => (⟨x.1, x.2.1, x.2.2.1, x.2.2.2.1, x.2.2.2.2.1, x.2.2.2.2.2.1, x.2.2.2.2.2.2.1, x.2.2.2.2.2.2.2⟩ : CM))
    (fun w cs x h => by
      obtain ⟨_, _, e, ⟨h1, _⟩, _, _, e2, ⟨h2, _⟩, _, _, e3, ⟨h3, _⟩, _, _, e4, ⟨h4, z4⟩, _, _, e5, ⟨h5, z5⟩, _, _, e6, ⟨h6, _⟩, _, _, e7, ⟨h7, _⟩, h8, _⟩ := h
      subst h1 h2 h3 h4 h5 h6 h7 h8 e7 e6 e5 e4 e3 e2
      exact ⟨e, z4, z5⟩)
/-- What is known of an instance. -/
structure Ist where
  st : Int
  pr : Bal
  vo : Bal
  cm : CM
  at' : At
/-- A message. -/
structure Mg where
  kind : Int
  fr : Int
  to : Int
  id : I3
  bal : Bal
  ins : Ist
  sn : Snp
def inE (x : Ist) (u : Value) : List Value := [.int .i64 x.st, .int .i64 x.pr.1, .int .i64 x.pr.2, .int .i64 x.vo.1, .int .i64 x.vo.2, .int .i64 x.cm.cl, .int .i64 x.cm.sq, .int .i64 x.cm.op, .string x.cm.pa, .string x.cm.va, .int .i64 x.cm.ver, .int .i64 x.cm.a, .int .i64 x.cm.b, .int .i64 x.at'.1, u]
theorem inE_one {x : Ist} {v : Value} (hv : v.oneCell' = true) : ∀ u ∈ inE x v, u.oneCell' = true := by
  intro u hu
  simp only [inE, List.mem_cons, List.not_mem_nil, or_false] at hu
  rcases hu with rfl | rfl | rfl | rfl | rfl | rfl | rfl | rfl | rfl | rfl | rfl | rfl | rfl | rfl | rfl
  all_goals first | rfl | exact hv
/-- An instance that reads so. -/
structure InIs (w : World) (cs : List Value) (x : Ist) (u : Value) : Prop where
  cs : cs = inE x u
  rd : IK.Rd w u x.at'.2
  ok : okL x.at'.2
  z1 : x.cm.pa.size ≤ maxLen
  z2 : x.cm.va.size ≤ maxLen
theorem InIs.keep {w w' : World} {cs : List Value} {x : Ist} {u : Value} (h : InIs w cs x u) (hb : Below w.heap.size w w') : InIs w' cs x u := ⟨h.cs, h.rd.below hb, h.ok, h.z1, h.z2⟩
def inS : Shp Ist where
  is := fun w cs x => ∃ u, InIs w cs x u
  keep := fun ⟨u, h⟩ hb => ⟨u, h.keep hb⟩
  one := fun {w cs x} ⟨u, h⟩ => by
    rw [h.cs]
    obtain ⟨a, c, e⟩ := h.rd.slice
    subst e
    exact inE_one rfl
theorem opens_inS : Opens Tryz.prog 48 inS :=
  (opens_struct (P := Tryz.prog) (S := pairS numS (pairS balS (pairS balS (pairS cmZ atS)))) Tryz.underlying48 (n := 15) (by kernel_rfl) (opensF_cons _ rfl rfl (k := 1) (by kernel_rfl) (opens_num Tryz.underlying40) (opensF_cons _ rfl rfl (k := 2) (by kernel_rfl) opens_bal (opensF_cons _ rfl rfl (k := 2) (by kernel_rfl) opens_bal (opensF_cons _ rfl rfl (k := 8) (by kernel_rfl) opens_cmZ (opensF_last _ rfl rfl (k := 2) (by kernel_rfl) rfl opens_at)))))).to (fun x => (⟨x.1, x.2.1, x.2.2.1, x.2.2.2.1, x.2.2.2.2⟩ : Ist))
    (fun w cs x h => by
      obtain ⟨_, _, e0, h0, _, _, e1, ⟨_, _, p0, p1, p2⟩, _, _, e2, ⟨_, _, q0, q1, q2⟩, _, _, e3, ⟨r1, r2, r3⟩, v, r4, r5, r6⟩ := h
      subst h0 p1 p2 p0 q1 q2 q0 r1 r4 e3 e2 e1
      exact ⟨v, e0, r5, r6, r2, r3⟩)
/-- The cells of a message. -/
def msE (x : Mg) (u u1 u2 u3 : Value) : List Value := [.int .i64 x.kind, .int .i64 x.fr, .int .i64 x.to, .int .i64 x.id.1, .int .i64 x.id.2.1, .int .i64 x.id.2.2, .int .i64 x.bal.1, .int .i64 x.bal.2] ++ (inE x.ins u ++ snV x.sn u1 u2 u3)
/-- A message that reads so. -/
structure MsIs (w : World) (cs : List Value) (x : Mg) (u u1 u2 u3 : Value) : Prop where
  cs : cs = msE x u u1 u2 u3
  id : okI x.id
  ins : InIs w (inE x.ins u) x.ins u
  s1 : ∃ rs, RowIs KN numS w u1 rs x.sn.1.2
  s2 : ∃ rs, RowIs KE enS w u2 rs x.sn.2.1
  s3 : ∃ rs, RowIs KZ seS w u3 rs x.sn.2.2
theorem MsIs.keep {w w' : World} {cs : List Value} {x : Mg} {u u1 u2 u3 : Value} (h : MsIs w cs x u u1 u2 u3) (hb : Below w.heap.size w w') : MsIs w' cs x u u1 u2 u3 := by
  obtain ⟨h1, h2, h3, ⟨r1, h4⟩, ⟨r2, h5⟩, ⟨r3, h6⟩⟩ := h
  exact ⟨h1, h2, h3.keep hb, ⟨r1, h4.on hb⟩, ⟨r2, h5.on hb⟩, ⟨r3, h6.on hb⟩⟩
theorem msE_one {x : Mg} {u u1 u2 u3 : Value} (h0 : u.oneCell' = true) (h1 : u1.oneCell' = true) (h2 : u2.oneCell' = true) (h3 : u3.oneCell' = true) : ∀ v ∈ msE x u u1 u2 u3, v.oneCell' = true := by
  intro v hv
  unfold msE at hv
  rcases List.mem_append.1 hv with q | q
  · simp only [List.mem_cons, List.not_mem_nil, or_false] at q
    rcases q with rfl | rfl | rfl | rfl | rfl | rfl | rfl | rfl <;> rfl
  · rcases List.mem_append.1 q with q | q
    · exact inE_one h0 v q
    · simp only [snV, List.mem_cons, List.not_mem_nil, or_false] at q
      rcases q with rfl | rfl | rfl | rfl
      · rfl
      · exact h1
      · exact h2
      · exact h3
theorem rowSl {P : Program} {k : Nat} {K : Knd P (Cls k)} {α : Type} {S : Shp α} {w : World} {v : Value} {rs : List (Cls k)} {l : List α} (h : RowIs K S w v rs l) : ∃ a c, v = .slice a l.length c := by
  obtain ⟨a, c, e⟩ := h.rd.slice
  rw [h.len] at e
  exact ⟨a, c, e⟩
theorem MsIs.sl {w : World} {cs : List Value} {x : Mg} {u u1 u2 u3 : Value} (h : MsIs w cs x u u1 u2 u3) : ∃ a c a1 c1 a2 c2 a3 c3, u = .slice a x.ins.at'.2.length c ∧ u1 = .slice a1 x.sn.1.2.length c1 ∧ u2 = .slice a2 x.sn.2.1.length c2 ∧ u3 = .slice a3 x.sn.2.2.length c3 := by
  obtain ⟨h1, h2, h3, ⟨r1, h4⟩, ⟨r2, h5⟩, ⟨r3, h6⟩⟩ := h
  obtain ⟨a, c, e⟩ := h3.rd.slice
  obtain ⟨a1, c1, e1⟩ := rowSl h4
  obtain ⟨a2, c2, e2⟩ := rowSl h5
  obtain ⟨a3, c3, e3⟩ := rowSl h6
  exact ⟨a, c, a1, c1, a2, c2, a3, c3, e, e1, e2, e3⟩
def msS : Shp Mg where
  is := fun w cs x => ∃ u u1 u2 u3, MsIs w cs x u u1 u2 u3
  keep := fun ⟨u, u1, u2, u3, h⟩ hb => ⟨u, u1, u2, u3, h.keep hb⟩
  one := fun {w cs x} ⟨u, u1, u2, u3, h⟩ => by
    rw [h.cs]
    obtain ⟨a, c, a1, c1, a2, c2, a3, c3, e, e1, e2, e3⟩ := h.sl
    subst e e1 e2 e3
    exact msE_one rfl rfl rfl rfl
theorem opens_msS : Opens Tryz.prog 54 msS :=
  (opens_struct (P := Tryz.prog) (S := pairS numS (pairS numS (pairS numS (pairS idS (pairS balS (pairS inS snS)))))) Tryz.underlying54 (n := 27) (by kernel_rfl) (opensF_cons _ rfl rfl (k := 1) (by kernel_rfl) (opens_num Tryz.underlying35) (opensF_cons _ rfl rfl (k := 1) (by kernel_rfl) (opens_num Tryz.underlying3) (opensF_cons _ rfl rfl (k := 1) (by kernel_rfl) (opens_num Tryz.underlying3) (opensF_cons _ rfl rfl (k := 3) (by kernel_rfl) opens_id (opensF_cons _ rfl rfl (k := 2) (by kernel_rfl) opens_bal (opensF_cons _ rfl rfl (k := 15) (by kernel_rfl) opens_inS (opensF_last _ rfl rfl (k := 4) (by kernel_rfl) rfl opens_sn)))))))).to (fun x => (⟨x.1, x.2.1, x.2.2.1, x.2.2.2.1, x.2.2.2.2.1, x.2.2.2.2.2.1, x.2.2.2.2.2.2⟩ : Mg))
    (fun w cs x h => by
      obtain ⟨_, _, e0, h0, _, _, e1, h1, _, _, e2, h2, _, _, e3, ⟨h3, h3o⟩, _, _, e4, ⟨_, _, p0, p1, p2⟩, _, _, e5, ⟨u, hi⟩, hs⟩ := h
      obtain ⟨a1, m1, c1, rs1, a2, m2, c2, rs2, a3, m3, c3, rs3, g1, k1, k2, k3⟩ := sn_is hs
      have hi0 := hi.cs
      subst h0 h1 h2 h3 p1 p2 p0 hi0 g1 e5 e4 e3 e2 e1
      exact ⟨u, _, _, _, e0, h3o, hi, ⟨rs1, k1⟩, ⟨rs2, k2⟩, ⟨rs3, k3⟩⟩)
def ms0 : Mg := ⟨0, 0, 0, (0, 0, 0), (0, 0), ⟨0, (0, 0), (0, 0), ⟨0, 0, 0, ByteArray.empty, ByteArray.empty, 0, 0, 0⟩, (0, [])⟩, ((0, []), [], [])⟩
def in0 : Ist := ⟨0, (0, 0), (0, 0), ⟨0, 0, 0, ByteArray.empty, ByteArray.empty, 0, 0, 0⟩, (0, [])⟩
def clsM : Cls 27 := ⟨msE ms0 (.slice none 0 0) (.slice none 0 0) (.slice none 0 0) (.slice none 0 0), rfl, msE_one rfl rfl rfl rfl⟩
def clsX : Cls 15 := ⟨inE in0 (.slice none 0 0), rfl, inE_one rfl⟩
noncomputable def KM : Knd Tryz.prog (Cls 27) := rawK Tryz.prog 54 25 27 296 (.agg (msE ms0 (.slice none 0 0) (.slice none 0 0) (.slice none 0 0) (.slice none 0 0)).toArray) Tryz.underlying25 (by kernel_rfl) rfl (by omega) (by omega) clsM
theorem opens_mss : Opens Tryz.prog 25 (rowS KM msS) := opens_row KM rfl rfl rfl (by kernel_rfl) opens_msS
/-- A message: its value, and what it is. -/
def MsgIs (W : World) (v : Value) (x : Mg) : Prop := ∃ cs, v = .agg cs ∧ msS.is W cs.toList x
theorem MsgIs.on {W w : World} {v : Value} {x : Mg} (h : MsgIs W v x) (hb : Below W.heap.size W w) : MsgIs w v x := by
  obtain ⟨cs, e, h⟩ := h
  exact ⟨cs, e, msS.keep h hb⟩
theorem mg_of_arg {H : Type} {enc : TypeId × Value → H} {w : World} {r : Reach} {b0 base : Nat} {spare : Nat → Bool} {held : Bool} {v : Value} {d : DataW H} {p : List MemPlace}
    (hv : Value.okWide Tryz.prog w r b0 54 v) (h : DataW.Trod enc Tryz.prog w base spare held 54 v d p) : ∃ x, MsgIs w v x := by
  obtain ⟨cs, x, rfl, hx⟩ := arg_struct Tryz.underlying54 opens_msS hv h
  exact ⟨x, cs, rfl, hx⟩
theorem mgs_of_arg {H : Type} {enc : TypeId × Value → H} {w : World} {r : Reach} {b0 base : Nat} {spare : Nat → Bool} {held : Bool} {v : Value} {d : DataW H} {p : List MemPlace}
    (hv : Value.okWide Tryz.prog w r b0 25 v) (h : DataW.Trod enc Tryz.prog w base spare held 25 v d p) : ∃ rs l, RowIs KM msS w v rs l :=
  arg_row Tryz.underlying25 opens_mss hv h
/-- A configuration that came in. -/
theorem cf_of_arg {H : Type} {enc : TypeId × Value → H} {w : World} {r : Reach} {b0 base : Nat} {spare : Nat → Bool} {held : Bool} {v : Value} {d : DataW H} {p : List MemPlace}
    (hv : Value.okWide Tryz.prog w r b0 24 v) (h : DataW.Trod enc Tryz.prog w base spare held 24 v d p) : ∃ (e : Int) (u : Value) (rs : List (Cls 1)) (l : List Int), v = .agg #[.int .i64 e, u] ∧ RowIs KN numS w u rs l := by
  obtain ⟨cs, x, rfl, _, _, e0, h0, v, rs, e1, hr⟩ := arg_struct Tryz.underlying24 opens_cf hv h
  refine ⟨x.1, v, rs, x.2, ?_, hr⟩
  subst h0 e1
  cases cs
  simp at e0
  rw [e0]
end Go.Proofs.YtchhcaoondfpiaaGreat
