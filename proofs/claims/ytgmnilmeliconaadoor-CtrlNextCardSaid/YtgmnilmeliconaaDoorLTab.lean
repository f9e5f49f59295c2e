/-
  Layer 16: what a row's laid list gives of the library's table.
-/
import Derived.Test.YtgmnilmeliconaaDoorRows
import Derived.Test.YtgmnilmeliconaaDoorVCtrlS
import Derived.LaidLaws
import Derived.Lib.LaidTab
import Derived.MakeChecks
namespace Go.Proofs.YtgmnilmeliconaaDoor
open Go.RowKit Go.ChangeShapes
set_option linter.unusedVariables false

theorem tab_data : Rows.laid_math_bits_deBruijn32tab (H := Unit) = Lib.tabData .u8 (Lib.deBruijn32tab.map fun (n : Nat) => (n : Int)) := by kernel_rfl
theorem tab32_of {W : World} {l : List (String × DataW Unit)} (h : laidMetH Tryd.prog l W) (hl : l = [("math/bits.deBruijn32tab", Rows.laid_math_bits_deBruijn32tab)]) : Tab32 W := by
  subst hl
  rw [MakeChecks.laidMetH_plain _ _ _ (by kernel_rfl)] at h
  obtain ⟨ps, ⟨g, t, cs, fuel, p, q, hg, ht, hv, hd, _, _⟩, _, _⟩ := h
  have eg : Tryd.prog.globalNamed "math/bits.deBruijn32tab" = some 0 := by kernel_rfl
  obtain rfl := Option.some.inj (eg.symm.trans hg)
  have et : (Tryd.prog.globals[0]?).map (·.type) = some 56 := by kernel_rfl
  obtain rfl := Option.some.inj (et.symm.trans ht)
  rw [tab_data] at hd
  have hcs := Lib.cells_of_tab Tryd.underlying56 Tryd.underlying5 (by kernel_rfl) (by kernel_rfl) hd
  intro j hj
  rw [World.var?_cell hg hv j, ← Array.getElem?_toList, hcs]
  have hl : j < Lib.deBruijn32tab.length := hj
  rw [List.getElem?_map, List.getElem?_map, List.getElem?_eq_getElem hl, List.getD_eq_getElem?_getD, List.getElem?_eq_getElem hl]
  rfl
end Go.Proofs.YtgmnilmeliconaaDoor
