/-
  Layer 3: the names' tests, as functions of the text alone.
-/
import Derived.Test.YtmgokplpkmndoaaGreatNRefNode
import Derived.Test.YtmgokplpkmndoaaGreatTTree
namespace Go.Proofs.YtmgokplpkmndoaaGreat
open Go.RowKit
set_option linter.unusedVariables false
set_option linter.unusedSimpArgs false

theorem prop_any (s : ByteArray) (w : World) (hs : s.size ≤ 140737488351232) (r : Bool) (hr : r = madeB propMarks s.data.toList) :
    Calls Tryz.prog 104 #[.string s] w fun e w' => e = .returned (.bool r) ∧ w = w' := by
  have C := Lib.hid (made_any s ⟨#[44, 46, 95, 43, 45, 63, 35]⟩ w hs r hr)
  clear hr
  go_enter Tryz.func104, Tryz.ntmps104
  go_wp2_with (go_at_call 138; refine C.out.mono ?_; rintro e w' ⟨rfl, rfl⟩)
  go_ret
  exact ⟨rfl, rfl⟩

theorem draws_under (w : World) (n : Nat) : Below w.heap.size w (w.drewN n) := ⟨rfl, rfl, rfl, Nat.le_refl _, fun _ _ => rfl⟩

/-- Is the text a node's name? What both functions answer. -/
def nodeB (s : ByteArray) : Bool :=
  if Lib.indexByte s.data.toList 64 = -1 then baseB s.data.toList
  else baseB (s.extract 0 (Lib.indexByte s.data.toList 64).toNat).data.toList && madeB nodeMarks (s.extract ((Lib.indexByte s.data.toList 64).toNat + 1) s.size).data.toList
theorem nodeB_none {s : ByteArray} (h : NoCut s) : nodeB s = baseB s.data.toList := if_pos h
theorem nodeB_some {s : ByteArray} {i : Nat} (h : CutAt s i) : nodeB s = (baseB (s.extract 0 i).data.toList && madeB nodeMarks (s.extract (i + 1) s.size).data.toList) := by
  have e : (Lib.indexByte s.data.toList 64).toNat = i := by rw [h.2]; rfl
  rw [nodeB, if_neg (by rw [h.2]; omega), e]
/-- Is the text a property's name? -/
def propB (s : ByteArray) : Bool := madeB propMarks s.data.toList

theorem nodeB_any (s : ByteArray) (w : World) (hs : s.size ≤ 140737488351232) (r : Bool) (hr : nodeB s = r) : Calls Tryz.prog 102 #[.string s] w fun e w' => e = .returned (.bool r) ∧ Below w.heap.size w w' := by
  subst hr
  rcases cut_or_not s with h | ⟨i, h⟩
  · refine (node_none s w h hs _ rfl).mono fun e w' ⟨h1, h2⟩ => ⟨by rw [h1, nodeB_none h], ?_⟩
    subst h2
    exact Below.refl _ _
  · refine (node_some s i w h hs _ _ rfl rfl).mono fun e w' ⟨h1, h2⟩ => ⟨by rw [h1, nodeB_some h], ?_⟩
    subst h2
    exact draws_under w 1
theorem propB_any (s : ByteArray) (w : World) (hs : s.size ≤ 140737488351232) (r : Bool) (hr : propB s = r) : Calls Tryz.prog 104 #[.string s] w fun e w' => e = .returned (.bool r) ∧ w = w' := prop_any s w hs r hr.symm
end Go.Proofs.YtmgokplpkmndoaaGreat
