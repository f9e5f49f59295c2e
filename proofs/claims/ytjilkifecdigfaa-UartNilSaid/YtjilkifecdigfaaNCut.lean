/-
  A text parted at the first @: the program's, the library's and the document's functions.
-/
import Derived.Test.YtjilkifecdigfaaNMade
import Derived.Laws.Strings3
import Derived.Lib.Strings
import Derived.Lib.Slices
import Derived.BigCall
import Derived.BigGuard
import Derived.Deep.Draws
namespace Go.Proofs.Ytjilkifecdigfaa
open Go.RowKit
set_option linter.unusedVariables false
set_option linter.unusedSimpArgs false

/-- The first @ is at i. -/
def CutAt (s : ByteArray) (i : Nat) : Prop := i < s.size ∧ Lib.indexByte s.data.toList 64 = (i : Int)
/-- There is none. -/
def NoCut (s : ByteArray) : Prop := Lib.indexByte s.data.toList 64 = -1

theorem index_size (l : List UInt8) (c : UInt8) (i : Nat) (h : Lib.indexByte l c = i) : i < l.length := by
  have h1 := (Lib.indexByte_some h).1
  rcases Nat.lt_or_ge i l.length with h | h
  · exact h
  · rw [List.getElem?_eq_none h] at h1; cases h1
theorem cut_or_not (s : ByteArray) : NoCut s ∨ ∃ i, CutAt s i := by
  have hge := Lib.indexByte_ge s.data.toList 64
  by_cases hn : Lib.indexByte s.data.toList 64 = -1
  · exact .inl hn
  · refine .inr ⟨(Lib.indexByte s.data.toList 64).toNat, ?_, by omega⟩
    exact index_size s.data.toList 64 _ (by omega)
theorem elem_at (s : ByteArray) (k : Nat) (hk : k < s.size) : s.data.toList[k]? = some s[k] := by
  rw [List.getElem?_eq_getElem (show k < s.data.toList.length from hk)]; rfl
theorem NoCut.ne {s : ByteArray} (h : NoCut s) (k : Nat) (hk : k < s.size) : s[k] ≠ 64 := fun e => Lib.indexByte_none h k (by rw [elem_at s k hk, e])
theorem CutAt.at_ {s : ByteArray} {i : Nat} (h : CutAt s i) : s[i]'h.1 = 64 := by
  have h1 := (Lib.indexByte_some h.2).1
  rw [elem_at s i h.1] at h1
  exact Option.some.inj h1
theorem CutAt.ne {s : ByteArray} {i : Nat} (h : CutAt s i) (k : Nat) (hk : k < i) : s[k]'(Nat.lt_trans hk h.1) ≠ 64 := fun e =>
  (Lib.indexByte_some h.2).2 k hk (by rw [elem_at s k (Nat.lt_trans hk h.1), e])
theorem byte_ne (c d : UInt8) (h : c ≠ d) : ((c.toNat : Int) == (d.toNat : Int)) = false := by
  rw [beq_eq_false_iff_ne]; intro e; exact h (UInt8.toNat.inj (by omega))

end Go.Proofs.Ytjilkifecdigfaa
