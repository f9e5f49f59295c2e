/-
  name.isMadeOf: a text of 1 to 31 bytes, each of which may stand.
-/
import Derived.Test.YtjilkifecdigfaaNByte
namespace Go.Proofs.Ytjilkifecdigfaa
open Go.RowKit
set_option linter.unusedVariables false
set_option linter.unusedSimpArgs false

def okM (marks : List UInt8) (c : UInt8) : Bool := letB c.toNat || digB c.toNat || decide (0 ≤ Lib.indexByte marks c)
/-- Made of letters, digits and the marks. -/
def madeB (marks l : List UInt8) : Bool := decide (1 ≤ l.length) && decide (l.length ≤ 31) && l.all (okM marks)

theorem size_len (s : ByteArray) : s.data.toList.length = s.size := rfl
theorem byte_le (c : UInt8) : 0 ≤ (c.toNat : Int) ∧ (c.toNat : Int) ≤ 255 := by have := c.toNat_lt; omega
theorem byte_back (c : UInt8) : ((c.toNat : Int).toNat).toUInt8 = c := by simp
theorem at_mem (s : ByteArray) (k : Nat) (h : k < s.size) : s[k] ∈ s.data.toList := by
  have : s[k] = s.data[k]'(by simpa using h) := rfl
  rw [this]; simp
theorem all_at (s : ByteArray) (p : UInt8 → Bool) (h : ∀ k (hk : k < s.size), p s[k] = true) : s.data.toList.all p = true := by
  rw [List.all_eq_true]
  intro x hx
  obtain ⟨k, hk, rfl⟩ := List.getElem_of_mem hx
  exact h k hk
theorem not_all (s : ByteArray) (p : UInt8 → Bool) (k : Nat) (hk : k < s.size) (h : p s[k] = false) : s.data.toList.all p = false := by
  rw [Bool.eq_false_iff]
  intro e
  rw [List.all_eq_true] at e
  have := e _ (at_mem s k hk)
  rw [h] at this; cases this

end Go.Proofs.Ytjilkifecdigfaa
