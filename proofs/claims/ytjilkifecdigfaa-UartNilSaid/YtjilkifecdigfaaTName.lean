/-
  Layer 3: the names' tests, as functions of the text alone.
-/
import Derived.Test.YtjilkifecdigfaaNRefNode
import Derived.Test.YtjilkifecdigfaaTTree
namespace Go.Proofs.Ytjilkifecdigfaa
open Go.RowKit
set_option linter.unusedVariables false
set_option linter.unusedSimpArgs false

theorem draws_under (w : World) (n : Nat) : Below w.heap.size w (w.drewN n) := ⟨rfl, rfl, rfl, Nat.le_refl _, fun _ _ => rfl⟩

/-- Is the text a node's name? What both functions answer. -/
def nodeB (s : ByteArray) : Bool :=
  if Lib.indexByte s.data.toList 64 = -1 then baseB s.data.toList
  else baseB (s.extract 0 (Lib.indexByte s.data.toList 64).toNat).data.toList && madeB nodeMarks (s.extract ((Lib.indexByte s.data.toList 64).toNat + 1) s.size).data.toList
theorem nodeB_none {s : ByteArray} (h : NoCut s) : nodeB s = baseB s.data.toList := if_pos h
theorem nodeB_some {s : ByteArray} {i : Nat} (h : CutAt s i) : nodeB s = (baseB (s.extract 0 i).data.toList && madeB nodeMarks (s.extract (i + 1) s.size).data.toList) := by
  have e : (Lib.indexByte s.data.toList 64).toNat = i := by rw [h.2]; rfl
  rw [nodeB, if_neg (by rw [h.2]; omega), e]
/-- Is the text a property's name? -/
def propB (s : ByteArray) : Bool := madeB propMarks s.data.toList

end Go.Proofs.Ytjilkifecdigfaa
