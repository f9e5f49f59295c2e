/-
  What a program that does nothing answers wrongly: layer 2's look.
-/
import Derived.Test.YtbkopplepaonlaaDoorNNode
namespace Go.Proofs.YtbkopplepaonlaaDoor
open Go.RowKit
set_option linter.unusedVariables false
set_option linter.unusedSimpArgs false

theorem draws_below (w : World) (n : Nat) : Below w.heap.size w (w.drewN n) := ⟨rfl, rfl, rfl, Nat.le_refl _, fun _ _ => rfl⟩
theorem draws_grown (w : World) (n : Nat) : Grown w (w.drewN n) := Grown.refl w

theorem awake2 (w : World) : Calls Tryd.prog 4 #[] w fun e w' => e = .returned (.bool true) ∧ w' = w.drewN 1 := by
  have C1 := Lib.hid (node_some ⟨#[97, 64, 49]⟩ 1 w ⟨by decide, by decide⟩ (by decide) true true (by kernel_rfl) (by kernel_rfl))
  have C2 := Lib.hid (node_none ⟨#[]⟩ (w.drewN 1) (by rfl) (by decide) false (by kernel_rfl))
  go_enter Tryd.func4, Tryd.ntmps4
  go_wp2_with fail
  refine C1.out.mono ?_
  rintro e w' ⟨rfl, rfl⟩
  go_wp2_with fail
  refine C2.out.mono ?_
  rintro e w' ⟨rfl, rfl⟩
  go_wp2
  go_ret
  exact ⟨rfl, rfl⟩
end Go.Proofs.YtbkopplepaonlaaDoor
