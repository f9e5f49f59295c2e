/-
  The one cell of a node's property: the document's answer.
-/
import Derived.Test.YtmgokplpkmndoaaGreatQProp
import Derived.Test.YtmgokplpkmndoaaGreatDNode
import Derived.OwnWalk
namespace Go.Proofs.YtmgokplpkmndoaaGreat
open Go.RowKit
set_option linter.unusedVariables false
set_option linter.unusedSimpArgs false

theorem idx_or : ∀ (l : List ByteArray) (s : ByteArray), idxOf l s = -1 ∨ ∃ k : Nat, ∃ h : k < l.length, idxOf l s = (k : Int) ∧ l[k] = s
  | [], s => .inl rfl
  | x :: l, s => by
    by_cases hx : x = s
    · exact .inr ⟨0, by simp, by rw [idxOf, if_pos hx]; rfl, by simpa using hx⟩
    · rcases idx_or l s with h | ⟨k, h1, h2, h3⟩
      · exact .inl (by rw [idxOf, if_neg hx, h]; rfl)
      · exact .inr ⟨k + 1, by simpa using h1, by rw [idxOf, if_neg hx, h2, if_neg (by omega)]; omega, by simpa using h3⟩

/-- The one cell of a node's property: the cell, whether it is there, the error. -/
def oneV (n : Nd) (s : ByteArray) : Int × Bool × Int :=
  match n.props.find? fun p => decide (p.name = s) with
  | none => (0, false, 0)
  | some p => if p.zs.length = 4 then (numTo p.zs 0 4, true, 0) else (0, false, 4)
def oneVal (o : Int × Bool × Int) : Value := .tuple #[.int .u32 o.1, .bool o.2.1, .int .i64 o.2.2]
theorem find_none : ∀ {ps : List PV} {s : ByteArray}, idxOf (ps.map PV.name) s = -1 → ps.find? (fun p => decide (p.name = s)) = none
  | [], _, _ => rfl
  | p :: r, s, h => by
    rw [List.map_cons, idxOf] at h
    by_cases hp : p.name = s
    · rw [if_pos hp] at h; omega
    · rw [if_neg hp] at h
      rw [List.find?_cons_of_neg (by simpa using hp)]
      refine find_none ?_
      rcases idx_or (r.map PV.name) s with h1 | ⟨k, _, h2, _⟩
      · exact h1
      · rw [h2, if_neg (by omega)] at h; omega
theorem find_at : ∀ {ps : List PV} {s : ByteArray} {k : Nat} (hk : k < ps.length), idxOf (ps.map PV.name) s = (k : Int) → ps.find? (fun p => decide (p.name = s)) = some ps[k]
  | [], _, _, hk, _ => absurd hk (by simp)
  | p :: r, s, k, hk, h => by
    rw [List.map_cons, idxOf] at h
    by_cases hp : p.name = s
    · rw [if_pos hp] at h
      obtain rfl : k = 0 := by omega
      rw [List.find?_cons_of_pos (by simpa using hp)]; rfl
    · rw [if_neg hp] at h
      rw [List.find?_cons_of_neg (by simpa using hp)]
      by_cases h0 : idxOf (r.map PV.name) s < 0
      · rw [if_pos h0] at h; omega
      · rw [if_neg h0] at h
        obtain ⟨j, rfl⟩ : ∃ j, k = j + 1 := ⟨k - 1, by omega⟩
        exact find_at (by simpa using hk) (by omega)
theorem prop_heft {n : Nd} {k : Nat} (h : k < n.props.length) : n.props[k].zs.length ≤ heftN n := by
  have e : heftN n = 16 + n.name.size + (n.props.map heftP).sum + heftL n.kids := by cases n; rw [heftN]; rfl
  have h1 := heftP_next n.props k h
  have h2 := heftP_take n.props (k + 1)
  have e2 : heftP n.props[k] = 16 + n.props[k].name.size + n.props[k].zs.length := rfl
  omega

end Go.Proofs.YtmgokplpkmndoaaGreat
