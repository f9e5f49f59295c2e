/-
  Layer 3: the names' tests, as functions of the text alone.
-/
import Derived.Test.YtckdddbiffoolaaDoorNRefNode
import Derived.Test.YtckdddbiffoolaaDoorTTree
namespace Go.Proofs.YtckdddbiffoolaaDoor
open Go.RowKit
set_option linter.unusedVariables false
set_option linter.unusedSimpArgs false

theorem draws_under (w : World) (n : Nat) : Below w.heap.size w (w.drewN n) := ⟨rfl, rfl, rfl, Nat.le_refl _, fun _ _ => rfl⟩

/-- Is the text a node's name? What both functions answer. -/
def nodeB (s : ByteArray) : Bool :=
  if Lib.indexByte s.data.toList 64 = -1 then baseB s.data.toList
  else baseB (s.extract 0 (Lib.indexByte s.data.toList 64).toNat).data.toList && madeB nodeMarks (s.extract ((Lib.indexByte s.data.toList 64).toNat + 1) s.size).data.toList
theorem nodeB_none {s : ByteArray} (h : NoCut s) : nodeB s = baseB s.data.toList := if_pos h
theorem nodeB_some {s : ByteArray} {i : Nat} (h : CutAt s i) : nodeB s = (baseB (s.extract 0 i).data.toList && madeB nodeMarks (s.extract (i + 1) s.size).data.toList) := by
  have e : (Lib.indexByte s.data.toList 64).toNat = i := by rw [h.2]; rfl
  rw [nodeB, if_neg (by rw [h.2]; omega), e]
/-- Is the text a property's name? -/
def propB (s : ByteArray) : Bool := madeB propMarks s.data.toList

theorem refnodeB_any (s : ByteArray) (w : World) (hs : s.size ≤ 140737488351232) (r : Bool) (hr : nodeB s = r) : Calls Tryd.prog 22 #[.string s] w fun e w' => e = .returned (.bool r) ∧ w = w' := by
  subst hr
  rcases cut_or_not s with h | ⟨i, h⟩
  · exact refnode_none s w h hs _ (nodeB_none h)
  · exact refnode_some s i w h hs _ (nodeB_some h)
theorem refpropB_any (s : ByteArray) (w : World) (hs : s.size ≤ 140737488351232) (r : Bool) (hr : propB s = r) : Calls Tryd.prog 23 #[.string s] w fun e w' => e = .returned (.bool r) ∧ w = w' := refprop_any s w hs r hr.symm
end Go.Proofs.YtckdddbiffoolaaDoor
