/-
  Layer 11: what the row's laid list gives of strconv's errors.
-/
import Derived.Test.YtihlpcbebpnmkaaGreatDoorRows
import Derived.Test.YtihlpcbebpnmkaaGreatDoorZText
import Derived.Stop.LaidErr
import Derived.LaidSub
import Derived.LaidLaws
import Derived.MakeChecks
namespace Go.Proofs.YtihlpcbebpnmkaaGreatDoor
open Go.RowKit Go.ChangeShapes
set_option linter.unusedVariables false

theorem errStar : "*" ++ "errors.errorString" = "*errors.errorString" := by decide
theorem errRow (u : TypeId) (h : Tryz.prog.typeName? 3 u = some "*errors.errorString") : u = 223 :=
  typeName_ptr_named (nm := "errors.errorString") (by rw [errStar]; kernel_rfl) (by kernel_rfl) (by decide) u (by rw [errStar]; exact h)
theorem errLaid_of {W : World} (h : laidMetH Tryz.prog Rows.overlayKeepsUptoRow.laid W) : ErrLaid W := by
  rw [MakeChecks.laidMetH_plain _ _ _ (by kernel_rfl)] at h
  have h1 := h.tail.tail.tail.tail
  have h2 := h1.tail
  obtain ⟨a1, s1, v1, _⟩ := laid_sentinel (g := 2) (ti := 177) (tp := 223) (te := 225) (ts := 9) h1 (by kernel_rfl) (by kernel_rfl) Tryz.underlying177 errRow Tryz.underlying223 Tryz.underlying225 rfl rfl Tryz.underlying9 (by kernel_rfl) (by kernel_rfl)
  obtain ⟨a2, s2, v2, _⟩ := laid_sentinel (g := 1) (ti := 177) (tp := 223) (te := 225) (ts := 9) h2 (by kernel_rfl) (by kernel_rfl) Tryz.underlying177 errRow Tryz.underlying223 Tryz.underlying225 rfl rfl Tryz.underlying9 (by kernel_rfl) (by kernel_rfl)
  have c1 := World.var?_cell (show Tryz.prog.globalNamed "strconv.ErrRange" = some 2 by kernel_rfl) v1 0
  have c2 := World.var?_cell (show Tryz.prog.globalNamed "strconv.ErrSyntax" = some 1 by kernel_rfl) v2 0
  have d1 : W.cell? ⟨2, 0, none⟩ = some (.iface 223 (.pointer (some a1))) := by simpa using c1
  have d2 : W.cell? ⟨1, 0, none⟩ = some (.iface 223 (.pointer (some a2))) := by simpa using c2
  refine ⟨?_, ⟨_, _, d2⟩, _, _, d1⟩
  have := World.block_lt_of_cell? W ⟨2, 0, none⟩ d1
  exact this
end Go.Proofs.YtihlpcbebpnmkaaGreatDoor
