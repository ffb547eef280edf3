/-
  The walks of package attr's Merge, All, Same, Linked, Agree.
-/
import Derived.Test.YtplplehfkfjhnaaAt1
namespace Go.Proofs.Ytplplehfkfjhnaa
open Go.RowKit
set_option linter.unusedSimpArgs false
set_option linter.unusedVariables false
set_option maxRecDepth 100000

theorem below_self2 {w w1 w2 : World} (h : Below w.heap.size w w1) (k : Below w1.heap.size w1 w2) : Below w.heap.size w w2 := h.trans (k.mono h.size)
/-- A row that was just laid, of elements whose cells are known. -/
theorem rowIs_lit {P : Program} {k : Nat} {K : Knd P (Cls k)} (hE : K.enc = Cls.cs) {α : Type} {S : Shp α} (w : World) (css : List (List Value)) (l : List α) (hl : css.length = l.length) (hk : ∀ cs ∈ css, cs.length = k)
    (hs : ∀ (j : Nat) (h1 : j < css.length) (h2 : j < l.length), S.is w css[j] l[j]) (T : TypeId) (n c : Nat) (hn : l.length = n) (hm : n ≤ maxLen) (g : Nat) (hg : w.heap.size = g) :
    ∃ rs, RowIs K S (w.alloc (.cells css.flatten.toArray T)) (.slice (some ⟨g, 0, none⟩) n c) rs l := by
  obtain ⟨rs, hrs, hp⟩ := list_ofR (α := Cls k) (Pr := fun i r => ∀ h : i < css.length, r.cs = css[i]) css.length (fun i hi => ⟨⟨css[i], hk _ (List.getElem_mem hi), S.one (hs i hi (by omega))⟩, fun h => rfl⟩)
  have e : K.row rs = css.flatten := by
    unfold Knd.row
    rw [hE, List.flatMap_def]
    congr 1
    refine List.ext_getElem (by simp [hrs]) fun j h1 h2 => ?_
    simp only [List.getElem_map]
    exact hp j (by simpa using h1) h2
  refine ⟨rs, ?_, by omega, fun j h1 h2 => ?_⟩
  · have := K.rd_lit rs T n c (by omega) hm w g hg
    rwa [e] at this
  · rw [hp j h1 (by omega)]
    exact S.keep (hs j _ h2) ((Below.refl _ _).alloc (Nat.le_refl _) _)
theorem Bk.newAt {w : World} {g : Nat} (hg : w.heap.size = g) (T : TypeId) (cs : List Value) : Bk (w.alloc (.cells cs.toArray T)) g T cs := by subst hg; exact Bk.new w T cs
theorem al1 (w : World) (a : Obj) : Below w.heap.size w (w.alloc a) := (Below.refl _ _).alloc (Nat.le_refl _) _
theorem al2 (w : World) (a b : Obj) : Below w.heap.size w ((w.alloc a).alloc b) := (al1 w a).alloc (by simp) _
theorem al3 (w : World) (a b c : Obj) : Below w.heap.size w (((w.alloc a).alloc b).alloc c) := (al2 w a b).alloc (by simp; omega) _
theorem al4 (w : World) (a b c d : Obj) : Below w.heap.size w ((((w.alloc a).alloc b).alloc c).alloc d) := (al3 w a b c).alloc (by simp; omega) _
theorem fold_lit2 (W : World) (g : Nat) (hg : W.heap.size = g) (s1 s2 : Int) (v1 v2 : Value) (l1 l2 : List I3) (h1 : IK.Rd W v1 l1) (o1 : okL l1) (h2 : IK.Rd W v2 l2) (o2 : okL l2) (hl : l1.length + l2.length ≤ 3000) :
    Calls Try.prog 57 #[.slice (some ⟨g, 0, none⟩) 2 2] (W.alloc (.cells #[.int .i64 s1, v1, .int .i64 s2, v2] aT)) (AttP (mrgA (s1, l1) (s2, l2)) (W.alloc (.cells #[.int .i64 s1, v1, .int .i64 s2, v2] aT))) := by
  obtain ⟨rs, hr⟩ := rowIs_lit (K := AtK) (S := atS) rfl W [[.int .i64 s1, v1], [.int .i64 s2, v2]] [(s1, l1), (s2, l2)] rfl (by simp) (fun j q1 q2 => by
    obtain rfl | rfl : j = 0 ∨ j = 1 := by simp at q2; omega
    · exact ⟨v1, rfl, h1, o1⟩
    · exact ⟨v2, rfl, h2, o2⟩) aT 2 2 rfl (by simp [maxLen]) g hg
  exact fold_any _ rs _ _ hr (by simp) (by simp [dpA]; omega)
theorem fold_lit3 (W : World) (g : Nat) (hg : W.heap.size = g) (s1 s2 s3 : Int) (v1 v2 v3 : Value) (l1 l2 l3 : List I3) (h1 : IK.Rd W v1 l1) (o1 : okL l1) (h2 : IK.Rd W v2 l2) (o2 : okL l2) (h3 : IK.Rd W v3 l3) (o3 : okL l3) (hl : l1.length + l2.length + l3.length ≤ 3000) :
    ∃ rs, RowIs AtK atS (W.alloc (.cells #[.int .i64 s1, v1, .int .i64 s2, v2, .int .i64 s3, v3] aT)) (.slice (some ⟨g, 0, none⟩) 3 3) rs [(s1, l1), (s2, l2), (s3, l3)] := by
  obtain ⟨rs, hr⟩ := rowIs_lit (K := AtK) (S := atS) rfl W [[.int .i64 s1, v1], [.int .i64 s2, v2], [.int .i64 s3, v3]] [(s1, l1), (s2, l2), (s3, l3)] rfl (by simp) (fun j q1 q2 => by
    obtain rfl | rfl | rfl : j = 0 ∨ j = 1 ∨ j = 2 := by simp at q2; omega
    · exact ⟨v1, rfl, h1, o1⟩
    · exact ⟨v2, rfl, h2, o2⟩
    · exact ⟨v3, rfl, h3, o3⟩) aT 3 3 rfl (by simp [maxLen]) g hg
  exact ⟨rs, hr⟩
theorem row_lit2 (W : World) (g : Nat) (hg : W.heap.size = g) (s1 s2 : Int) (v1 v2 : Value) (l1 l2 : List I3) (h1 : IK.Rd W v1 l1) (o1 : okL l1) (h2 : IK.Rd W v2 l2) (o2 : okL l2) :
    ∃ rs, RowIs AtK atS (W.alloc (.cells #[.int .i64 s1, v1, .int .i64 s2, v2] aT)) (.slice (some ⟨g, 0, none⟩) 2 2) rs [(s1, l1), (s2, l2)] := by
  obtain ⟨rs, hr⟩ := rowIs_lit (K := AtK) (S := atS) rfl W [[.int .i64 s1, v1], [.int .i64 s2, v2]] [(s1, l1), (s2, l2)] rfl (by simp) (fun j q1 q2 => by
    obtain rfl | rfl : j = 0 ∨ j = 1 := by simp at q2; omega
    · exact ⟨v1, rfl, h1, o1⟩
    · exact ⟨v2, rfl, h2, o2⟩) aT 2 2 rfl (by simp [maxLen]) g hg
  exact ⟨rs, hr⟩
set_option maxHeartbeats 1000000 in
theorem all_any (v : Value) (rs : List (Cls 2)) (l : List At) (w : World) (h : RowIs AtK atS w v rs l) (hl : l.length ≤ 100) (hd : (dpA l).length ≤ 3000) :
    Calls Try.prog 38 #[v] w (AttP (allA l) w) := by
  have HC := Lib.hid (fold_any v rs l (w.alloc (.cells #[.int .i64 0, .slice none 0 0] aT)) (h.on (al1 _ _)) hl hd)
  obtain ⟨a, c, e⟩ := h.rd.slice
  obtain ⟨N, hN⟩ : ∃ N, rs.length = N := ⟨_, rfl⟩
  rw [hN] at e
  subst e
  clear h hN hl hd
  go_enter Try.func38, Try.ntmps38
  go_wp2_with fail
  refine HC.out.mono ?_
  rintro e w1 ⟨v', he, ho, hb⟩
  have he := he.out
  subst he
  obtain ⟨a3, c3, hv3⟩ := ho.slice
  obtain ⟨N3, hN3⟩ : ∃ N3, (allA l).2.length = N3 := ⟨_, rfl⟩
  rw [hN3] at hv3
  subst hv3
  have hR : Bk w1 w.heap.size aT [.int .i64 0, .slice none 0 0] := Bk.below (Bk.newAt rfl aT _) hb
  have hB : Below w.heap.size w w1 := (al1 _ _).trans (hb.mono (by simp))
  have c0 := hR.cell 0
  have c1 := hR.cell 1
  simp only [List.getElem?_cons_zero, List.getElem?_cons_succ] at c0 c1
  have f1 : ∀ o, w1.frozen? ⟨w.heap.size, o, none⟩ = false := fun o => hR.fz o
  have z1 : w.heap.size < w1.heap.size := hR.lt
  have HO : Hid (IK.Own w1 (w.heap.size + 1) (.slice a3 N3 c3) (allA l).2) := Lib.hid (ho.base (by simp))
  have HB := Lib.hid hB
  obtain ⟨S, hS⟩ : ∃ S, (allA l).1 = S := ⟨_, rfl⟩
  rw [hS]
  have HS := Lib.hid hS
  clear ho hb hR hB hN3 hS HC
  go_wp2
  refine bodyPost_ret (v := .agg #[.int .i64 S, .slice a3 N3 c3]) (by simp [results, Try.results38, go_sem, c0, c1, f1, z1]) rfl ⟨.slice a3 N3 c3, ?_, ?_, ?_⟩
  · exact Lib.hid (by rw [HS.out])
  · exact Knd.Own.base ((HO.out.setLow (by omega) _ _).setLow (by omega) _ _) (by omega)
  · exact (HB.out.setCell (Nat.le_refl _) _).setCell (Nat.le_refl _) _
end Go.Proofs.Ytplplehfkfjhnaa
