/-
  The document's Node: the same test as the program's.
-/
import Derived.Test.YtjilkifecdigfaaNRef
namespace Go.Proofs.Ytjilkifecdigfaa
open Go.RowKit
set_option linter.unusedVariables false
set_option linter.unusedSimpArgs false

theorem ext_size (s : ByteArray) (a b : Nat) (h : b ≤ s.size) : (s.extract a b).size = b - a := by rw [ByteArray.size_extract]; omega
theorem head_at (s : ByteArray) (i j : Nat) (h : i ≤ s.size) (hj : j < i) : (s.extract 0 i)[j]'(by rw [ext_size _ _ _ h]; omega) = s[j] := by
  rw [ByteArray.getElem_extract]; simp only [Nat.zero_add]
theorem tail_at (s : ByteArray) (i j : Nat) (hj : j < (s.extract (i + 1) s.size).size) : (s.extract (i + 1) s.size)[j] = s[i + 1 + j]'(by rw [ext_size _ _ _ (Nat.le_refl _)] at hj; omega) :=
  ByteArray.getElem_extract hj

end Go.Proofs.Ytjilkifecdigfaa
