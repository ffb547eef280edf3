/-
  What config.Change comes to, at whatever command.
-/
import Derived.Test.YtacjmcjmenbekaaCfgA
import Derived.Test.YtacjmcjmenbekaaCfgB
import Derived.Test.YtacjmcjmenbekaaCfgC
namespace Go.Proofs.Ytacjmcjmenbekaa
open Go.RowKit
set_option linter.unusedSimpArgs false
set_option linter.unusedVariables false

theorem change_any (ep : Int) (ad : Option Addr) (cap : Nat) (ns : List Int) (cl sq op : Int) (p v : ByteArray) (ver a b : Int) (w : World) (h : It w (.slice ad ns.length cap) ns) :
    Calls Try.prog 10 #[cfgV ep ad ns.length cap, cmdV cl sq op p v ver a b] w (ChgPost (chg ep ns op a b) w) := by
  by_cases hv : valB ep ns = true
  · have hN : Val ep ns := by simpa [valB] using hv
    by_cases he : ep = 1048576
    · have e1 : chg ep ns op a b = no 1 := by simp [chg, he]
      rw [e1]
      by_cases h7 : op = 7
      · subst h7; exact change_add_end ep ad cap ns cl sq p v ver a b w h hv he
      by_cases h8 : op = 8
      · subst h8; exact change_remove_end ep ad cap ns cl sq p v ver a b w h hv he
      by_cases h9 : op = 9
      · subst h9; exact change_replace_end ep ad cap ns cl sq p v ver a b w h hv he
      · exact change_none ep ad cap ns cl sq op p v ver a b w (by simpa using h7) (by simpa using h8) (by simpa using h9)
    · by_cases h7 : op = 7
      · subst h7
        have e1 : chg ep ns 7 a b = chgAdd ep ns a := by simp [chg, he, hN]
        rw [e1]
        by_cases hx : (chgAdd ep ns a).err = 0
        · exact change_add_ok ep ad cap ns cl sq p v ver a b w h hv he hx
        · exact change_add_err ep ad cap ns cl sq p v ver a b w h hv he hx
      by_cases h8 : op = 8
      · subst h8
        have e1 : chg ep ns 8 a b = chgRem ep ns a := by simp [chg, he, hN]
        rw [e1]
        by_cases hx : (chgRem ep ns a).err = 0
        · exact change_remove_ok ep ad cap ns cl sq p v ver a b w h hv he hx
        · exact change_remove_err ep ad cap ns cl sq p v ver a b w h hv he hx
      by_cases h9 : op = 9
      · subst h9
        have e1 : chg ep ns 9 a b = chgRep ep ns a b := by simp [chg, he, hN]
        rw [e1]
        by_cases hx : (chgRep ep ns a b).err = 0
        · exact change_replace_ok ep ad cap ns cl sq p v ver a b w h hv he hx
        · exact change_replace_err ep ad cap ns cl sq p v ver a b w h hv he hx
      · have e1 : chg ep ns op a b = no 1 := by simp [chg, he, hN, h7, h8, h9]
        rw [e1]
        exact change_none ep ad cap ns cl sq op p v ver a b w (by simpa using h7) (by simpa using h8) (by simpa using h9)
  · have hv' : valB ep ns = false := by simpa using hv
    have hN : ¬ Val ep ns := by simpa [valB] using hv
    have e1 : chg ep ns op a b = no 1 := by simp [chg, hN]
    rw [e1]
    by_cases h7 : op = 7
    · subst h7; exact change_add_bad ep ad cap ns cl sq p v ver a b w h hv'
    by_cases h8 : op = 8
    · subst h8; exact change_remove_bad ep ad cap ns cl sq p v ver a b w h hv'
    by_cases h9 : op = 9
    · subst h9; exact change_replace_bad ep ad cap ns cl sq p v ver a b w h hv'
    · exact change_none ep ad cap ns cl sq op p v ver a b w (by simpa using h7) (by simpa using h8) (by simpa using h9)
end Go.Proofs.Ytacjmcjmenbekaa
