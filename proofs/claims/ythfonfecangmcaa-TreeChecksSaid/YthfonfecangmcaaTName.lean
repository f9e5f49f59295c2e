/-
  Layer 3: the names' tests, as functions of the text alone.
-/
import Derived.Test.YthfonfecangmcaaNRefNode
import Derived.Test.YthfonfecangmcaaTTree
namespace Go.Proofs.Ythfonfecangmcaa
open Go.RowKit
set_option linter.unusedVariables false
set_option linter.unusedSimpArgs false

theorem prop_any (s : ByteArray) (w : World) (hs : s.size ≤ 140737488351232) (r : Bool) (hr : r = madeB propMarks s.data.toList) :
    Calls Try.prog 54 #[.string s] w fun e w' => e = .returned (.bool r) ∧ w = w' := by
  have C := Lib.hid (made_any s ⟨#[44, 46, 95, 43, 45, 63, 35]⟩ w hs r hr)
  clear hr
  go_enter Try.func54, Try.ntmps54
  go_wp2_with (go_at_call 57; refine C.out.mono ?_; rintro e w' ⟨rfl, rfl⟩)
  go_ret
  exact ⟨rfl, rfl⟩

/-- Both Nodes answer the same. -/
theorem nodes_same (s : ByteArray) (hs : s.size ≤ 140737488351232) : ∃ r : Bool, ∃ d : Nat, ∀ w,
    (Calls Try.prog 52 #[.string s] w fun e w' => e = .returned (.bool r) ∧ w' = w.drewN d) ∧
    (Calls Try.prog 37 #[.string s] w fun e w' => e = .returned (.bool r) ∧ w = w') := by
  rcases cut_or_not s with h | ⟨i, h⟩
  · exact ⟨_, 0, fun w => ⟨(node_none s w h hs _ rfl).mono fun e w' ⟨h1, h2⟩ => ⟨h1, h2.symm⟩, refnode_none s w h hs _ rfl⟩⟩
  · exact ⟨_, 1, fun w => ⟨node_some s i w h hs _ _ rfl rfl, refnode_some s i w h hs _ rfl⟩⟩

theorem draws_under (w : World) (n : Nat) : Below w.heap.size w (w.drewN n) := ⟨rfl, rfl, rfl, Nat.le_refl _, fun _ _ => rfl⟩

/-- Is the text a node's name? What both functions answer. -/
noncomputable def nodeB (s : ByteArray) : Bool := if h : s.size ≤ 140737488351232 then Classical.choose (nodes_same s h) else false
/-- Is the text a property's name? -/
def propB (s : ByteArray) : Bool := madeB propMarks s.data.toList

theorem nodeB_any (s : ByteArray) (w : World) (hs : s.size ≤ 140737488351232) (r : Bool) (hr : nodeB s = r) : Calls Try.prog 52 #[.string s] w fun e w' => e = .returned (.bool r) ∧ Below w.heap.size w w' := by
  obtain ⟨d, h⟩ := Classical.choose_spec (nodes_same s hs)
  have e : nodeB s = Classical.choose (nodes_same s hs) := dif_pos hs
  refine (h w).1.mono fun e' w' ⟨h1, h2⟩ => ⟨by rw [h1, ← hr, e], ?_⟩
  rw [h2]
  exact draws_under w d
theorem refnodeB_any (s : ByteArray) (w : World) (hs : s.size ≤ 140737488351232) (r : Bool) (hr : nodeB s = r) : Calls Try.prog 37 #[.string s] w fun e w' => e = .returned (.bool r) ∧ w = w' := by
  obtain ⟨d, h⟩ := Classical.choose_spec (nodes_same s hs)
  have e : nodeB s = Classical.choose (nodes_same s hs) := dif_pos hs
  exact (h w).2.mono fun e' w' ⟨h1, h2⟩ => ⟨by rw [h1, ← hr, e], h2⟩
theorem propB_any (s : ByteArray) (w : World) (hs : s.size ≤ 140737488351232) (r : Bool) (hr : propB s = r) : Calls Try.prog 54 #[.string s] w fun e w' => e = .returned (.bool r) ∧ w = w' := prop_any s w hs r hr.symm
theorem refpropB_any (s : ByteArray) (w : World) (hs : s.size ≤ 140737488351232) (r : Bool) (hr : propB s = r) : Calls Try.prog 38 #[.string s] w fun e w' => e = .returned (.bool r) ∧ w = w' := refprop_any s w hs r hr.symm
end Go.Proofs.Ythfonfecangmcaa
