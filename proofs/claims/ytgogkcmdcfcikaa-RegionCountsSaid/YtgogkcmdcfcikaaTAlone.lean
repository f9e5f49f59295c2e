/-
  Layer 3: what is asked of a node itself.
-/
import Derived.Test.YtgogkcmdcfcikaaTTwice
import Derived.Test.YtgogkcmdcfcikaaTName
namespace Go.Proofs.Ytgogkcmdcfcikaa
open Go.RowKit
set_option linter.unusedVariables false
set_option linter.unusedSimpArgs false

/-- A property whose name is none. -/
def misP (p : PV) : Bool := !propB p.name
/-- May a node at that depth bear its name? -/
noncomputable def nameOk (n : Nd) (d : Int) : Bool := if d = 1 then n.name.toList.isEmpty else nodeB n.name
/-- The first error of a node itself. -/
noncomputable def aloneE (n : Nd) (d : Int) : Int :=
  if 16 < d then 6 else if nameOk n d = false then 5 else if n.props.any misP = true then 5 else if twiceB (n.props.map PV.name) = true then 9 else if twiceB (n.kids.map Nd.name) = true then 9 else 0

/-- None of the first k is bad. -/
def Good {α : Type} (f : α → Bool) (l : List α) (k : Nat) : Prop := ∀ j (hj : j < l.length), j < k → f l[j] = false
theorem Good.zero {α : Type} (f : α → Bool) (l : List α) : Good f l 0 := fun _ _ h => absurd h (Nat.not_lt_zero _)
theorem Good.succ {α : Type} {f : α → Bool} {l : List α} {k : Nat} (h : Good f l k) (hk : k < l.length) (he : f l[k] = false) : Good f l (k + 1) := fun j hj hlt => by
  rcases Nat.lt_succ_iff_lt_or_eq.1 hlt with h' | rfl
  · exact h j hj h'
  · exact he
theorem Good.all {α : Type} {f : α → Bool} {l : List α} {k : Nat} (h : Good f l k) (hk : ¬ k < l.length) : l.any f = false := by
  rw [List.any_eq_false]
  intro x hx
  obtain ⟨i, hi, rfl⟩ := List.getElem_of_mem hx
  rw [h i hi (by omega)]
  simp
theorem any_at {α : Type} {f : α → Bool} {l : List α} {k : Nat} (hk : k < l.length) (he : f l[k] = true) : l.any f = true := List.any_eq_true.2 ⟨_, List.getElem_mem hk, he⟩

end Go.Proofs.Ytgogkcmdcfcikaa
