/-
  Graph: Ready.
-/
import Derived.Test.YtlckjpjcfalfnaaGy
namespace Go.Proofs.Ytlckjpjcfalfnaa
open Go.RowKit Go.Sort
open Go.WideMaps
set_option linter.unusedSimpArgs false
set_option linter.unusedVariables false
set_option maxRecDepth 100000

def RdP (nv : List NV) (dn : List I3) (w : World) (e : Ending) (w' : World) : Prop := ∃ cur : List (I3 × NV), RdyIs (webL nv) cur dn ∧ (keysV cur).Nodup ∧ RowP (clnI (keysV cur)) w e w'
theorem webL_small {nv : List NV} {U : List I3} (hU : ∀ n ∈ nv, (∀ y ∈ n.d.dl, y ∈ U) ∧ n.d.dl.length ≤ 900) : ∀ e ∈ webL nv, (∀ y ∈ e.2.d.dl, y ∈ U) ∧ e.2.d.dl.length ≤ 900 := fun e he => hU _ (webL_mem nv e he).1
theorem RdyIs.len {web cur : List (I3 × NV)} {dn : List I3} (h : RdyIs web cur dn) (hn : (keysV cur).Nodup) : cur.length ≤ web.length := by
  have := len_sub hn (k := keysV web) fun x hx => by
    obtain ⟨n, q⟩ := mem_keys.1 hx
    exact mem_keys.2 ⟨n, (h.sub x n q).1⟩
  simpa [keysV] using this
set_option maxHeartbeats 4000000 in
theorem readyR_any {w : World} {v vd : Value} {nv : List NV} {dn : List I3} (h : NRow w v nv) (hl : nv.length ≤ 1000) (hv : (nv.map (·.d.id)).Nodup) (hd : IK.Rd w vd dn) (ho : okL dn) (hdl : dn.length ≤ 900) (U : List I3) (hU : ∀ n ∈ nv, (∀ y ∈ n.d.dl, y ∈ U) ∧ n.d.dl.length ≤ 900) (hUl : U.length ≤ 900) :
    Calls Try.prog 20 #[v, vd] w (RdP nv dn w) := by
  have HVal := Lib.hid (gvalid_any h (by omega))
  rw [decide_eq_true (⟨by omega, hv⟩ : nv.length ≤ 1024 ∧ (nv.map (·.d.id)).Nodup)] at HVal
  have HR := Lib.hid h
  have HD := Lib.hid hd
  have HDo := Lib.hid ho
  have HDl := Lib.hid hdl
  have HU := Lib.hid hU
  have HUl := Lib.hid hUl
  have HL := Lib.hid hl
  obtain ⟨a, c, hvv, _, _⟩ := h.el
  obtain ⟨a2, c2, hvd⟩ := hd.slice
  subst hvv
  subst hvd
  clear h hd ho hdl hU hUl hv
  go_enter Try.func20, Try.ntmps20
  go_wp2_with fail
  refine HVal.out.mono ?_
  rintro e w1 ⟨rfl, hb⟩
  have HB1 := Lib.hid hb
  have HW := Lib.hid (webOf_any (w := w1) (HR.out.below HB1.out) (by have := HL.out; omega))
  clear hb HVal
  go_wp2_with fail
  refine HW.out.mono ?_
  rintro e w2 ⟨b, he, hm, hbz, hb⟩
  rw [he.out]
  have HB2 := Lib.hid (HB1.out.trans (hb.mono HB1.out.size))
  have HRy := Lib.hid (ready_any (w := w2) hm (fun e he => (HR.out.ok _ (webL_mem nv e he).1).below HB2.out) (HD.out.below HB2.out) HDo.out HDl.out (by have := webL_len nv; have := HL.out; omega) U (webL_small HU.out) HUl.out)
  clear hm hbz hb HB1 HW he
  go_wp2_with fail
  refine HRy.out.mono ?_
  rintro e w3 ⟨b3, cur, he, hm, hri, hbz, hb⟩
  rw [he.out]
  have HB3 := Lib.hid (HB2.out.trans (hb.mono HB2.out.size))
  have HRi := Lib.hid hri
  have HNd := Lib.hid hm.nodup
  have HRn := Lib.hid (risenN_any hm (by have := hri.len hm.nodup; have := webL_len nv; have := HL.out; omega))
  have hfw := field_web b3
  clear hm hri hbz hb HB2 HRy he
  go_wp2_with fail
  refine HRn.out.mono ?_
  rintro e w4 ⟨v4, he, ho4, hb⟩
  rw [he.out]
  have HO4 := Lib.hid (ho4.base HB3.out.size)
  have HB4 := Lib.hid (HB3.out.trans (hb.mono HB3.out.size))
  clear he ho4 hb HB3 HRn hfw
  go_wp2
  go_ret
  exact ⟨cur, HRi.out, HNd.out, v4, rfl, HO4.out, HB4.out⟩
end Go.Proofs.Ytlckjpjcfalfnaa
