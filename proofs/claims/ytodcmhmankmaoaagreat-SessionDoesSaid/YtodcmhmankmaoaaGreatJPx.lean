/-
  Laws of package paths that this seat can use, more.
-/
import Derived.Test.YtodcmhmankmaoaaGreatJP
namespace Go.Proofs.YtodcmhmankmaoaaGreat
open Go.ChangeShapes Go.WideShapes Go.ChangeAt Go.RowKit Go.Joins Go.Deep Go
set_option linter.unusedSimpArgs false
set_option linter.unusedVariables false

theorem depth_any (p : ByteArray) (w : World) (hp : p.size ≤ 1000) (hm : ML w) : Calls Tryz.prog 56 #[.string p] w fun e w' => e = .returned (.int .i64 (dpt p)) ∧ Below w.heap.size w w' := by
  have cC := cut_any p w hp hm
  clear hm hp
  cases hB : vld p with
  | true =>
    have e1 : dpt p = ((nmL p).length : Int) := by unfold dpt; rw [hB]; rfl
    obtain ⟨n, hn⟩ : ∃ n, (nmL p).length = n := ⟨_, rfl⟩
    rw [e1, hn]
    go_enter Tryz.func56, Tryz.ntmps56
    go_wp2_with fail
    refine cC.mono ?_
    rintro e w1 ⟨v, he, ho, hb⟩
    rw [hB] at he
    subst he
    obtain ⟨a, c, hv, hs, hcap⟩ := cut_srd ho
    rw [hn] at hv
    subst hv
    have HBl := Lib.hid hb
    clear ho hb hB cC hs hcap e1 hn
    go_wp2
    go_ret
    exact ⟨rfl, HBl.out⟩
  | false =>
    have e1 : dpt p = -1 := by unfold dpt; rw [hB]; rfl
    rw [e1]
    go_enter Tryz.func56, Tryz.ntmps56
    go_wp2_with fail
    refine cC.mono ?_
    rintro e w1 ⟨v, he, ho, hb⟩
    rw [hB] at he
    subst he
    have HBl := Lib.hid hb
    clear ho hb hB cC e1
    go_wp2
    go_ret
    exact ⟨rfl, HBl.out⟩
end Go.Proofs.YtodcmhmankmaoaaGreat
