/-
  Layer 2, NameSplits: for every text name.Split parts it at the first @, as the document says.
-/
import Derived.Test.YtbkopplepaonlaaDoorNCut
import Derived.Test.YtbkopplepaonlaaDoorNNode
namespace Go.Proofs.YtbkopplepaonlaaDoor
open Go.RowKit
set_option linter.unusedVariables false
set_option linter.unusedSimpArgs false

theorem split_none (s : ByteArray) (w : World) (h : NoCut s) :
    Calls Tryd.prog 7 #[.string s] w fun e w' => e = .returned (.tuple #[.string s, .string ByteArray.empty]) ∧ w = w' := by
  have C := Lib.hid (cut_none s w h)
  clear h
  go_enter Tryd.func7, Tryd.ntmps7
  go_wp2_with (go_at_call 9; refine C.out.mono ?_; rintro e w' ⟨rfl, rfl⟩)
  go_ret2
  exact ⟨rfl, rfl⟩
theorem split_some (s : ByteArray) (i : Nat) (w : World) (h : CutAt s i) (hs : s.size ≤ 10000) :
    Calls Tryd.prog 7 #[.string s] w fun e w' => e = .returned (.tuple #[.string (s.extract 0 i), .string (s.extract (i + 1) s.size)]) ∧ w' = w.drewN 1 := by
  have C := Lib.hid (cut_some s i w h hs)
  clear h
  go_enter Tryd.func7, Tryd.ntmps7
  go_wp2_with (go_at_call 9; refine C.out.mono ?_; rintro e w' ⟨rfl, rfl⟩)
  go_ret2
  exact ⟨rfl, rfl⟩
end Go.Proofs.YtbkopplepaonlaaDoor
