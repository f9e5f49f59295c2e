/-
  The document's functions of names: the same tests on the bytes.
-/
import Derived.Test.YtjilkifecdigfaaNNode
namespace Go.Proofs.Ytjilkifecdigfaa
open Go.RowKit
set_option linter.unusedVariables false
set_option linter.unusedSimpArgs false

set_option maxRecDepth 100000 in
theorem node_marks : ∀ n : Fin 256, okM nodeMarks (UInt8.ofNat n.val) = stB n.val := by decide
theorem node_ok (c : UInt8) : okM nodeMarks c = stB c.toNat := by
  have h := node_marks ⟨c.toNat, c.toNat_lt⟩
  simpa using h
def stP (c : Int) : Bool := stB c || decide (c = 63) || decide (c = 35)
set_option maxRecDepth 100000 in
theorem prop_marks : ∀ n : Fin 256, okM propMarks (UInt8.ofNat n.val) = stP n.val := by decide
theorem prop_ok (c : UInt8) : okM propMarks c = stP c.toNat := by
  have h := prop_marks ⟨c.toNat, c.toNat_lt⟩
  simpa using h

/-- All bytes but the one at i may stand. -/
def AllBut (s : ByteArray) (i : Int) (k : Nat) : Prop := ∀ j (hj : j < s.size), j < k → (j : Int) ≠ i → stB s[j].toNat = true

theorem AllBut.zero (s : ByteArray) (i : Int) : AllBut s i 0 := fun _ _ h => absurd h (by omega)
theorem AllBut.succ {s : ByteArray} {i : Int} {k : Nat} (h : AllBut s i k) (hk : k < s.size) (h1 : (k : Int) ≠ i → stB s[k].toNat = true) : AllBut s i (k + 1) := fun j hj hjk hne => by
  by_cases e : j = k
  · subst e; exact h1 hne
  · exact h j hj (by omega) hne

theorem made_true (s : ByteArray) (h1 : 1 ≤ s.size) (h2 : s.size ≤ 31) (h : ∀ j (hj : j < s.size), stB s[j].toNat = true) : madeB nodeMarks s.data.toList = true := by
  unfold madeB
  rw [size_len, decide_eq_true h1, decide_eq_true h2, all_at s _ (fun j hj => by rw [node_ok]; exact h j hj)]; rfl
theorem made_len (s : ByteArray) (h : ¬ (1 ≤ s.size ∧ s.size ≤ 31)) : madeB nodeMarks s.data.toList = false := by
  unfold madeB
  rw [size_len]
  by_cases h1 : 1 ≤ s.size
  · rw [decide_eq_false (p := s.size ≤ 31) (by omega), Bool.and_false]; rfl
  · rw [decide_eq_false h1]; rfl
theorem made_bad (s : ByteArray) (j : Nat) (hj : j < s.size) (h : stB s[j].toNat = false) : madeB nodeMarks s.data.toList = false := by
  unfold madeB
  rw [not_all s _ j hj (by rw [node_ok]; exact h), Bool.and_false]
end Go.Proofs.Ytjilkifecdigfaa
