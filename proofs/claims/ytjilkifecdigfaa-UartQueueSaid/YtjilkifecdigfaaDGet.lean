/-
  Numbers in bytes, read by the program: the number, or none; slices of any length.
-/
import Derived.Test.YtjilkifecdigfaaMem
import Derived.Laws.Bits64
import Derived.Laws.BitsAllLaws
namespace Go.Proofs.Ytjilkifecdigfaa
open Go.RowKit
set_option linter.unusedVariables false

/-- The number of k bytes from place a on, the greatest first. -/
def numTo (zs : List Int) (a : Nat) : Nat → Int
  | 0 => 0
  | k + 1 => numTo zs a k * 256 + zs.getD (a + k) 0

theorem numTo_bound (zs : List Int) (a : Nat) (hz : ∀ i, 0 ≤ zs.getD i 0 ∧ zs.getD i 0 < 256) : ∀ k, 0 ≤ numTo zs a k ∧ numTo zs a k < 256 ^ k
  | 0 => by simp [numTo]
  | k + 1 => by
    have := numTo_bound zs a hz k
    have := hz (a + k)
    simp only [numTo, Int.pow_succ]
    omega

theorem numTo_lt64 (zs : List Int) (a k : Nat) (hz : ∀ i, 0 ≤ zs.getD i 0 ∧ zs.getD i 0 < 256) (hk : k ≤ 8) : 0 ≤ numTo zs a k ∧ numTo zs a k ≤ 18446744073709551615 := by
  have h := numTo_bound zs a hz k
  have h2 : (256 : Int) ^ k ≤ 256 ^ 8 := by
    have : k = 0 ∨ k = 1 ∨ k = 2 ∨ k = 3 ∨ k = 4 ∨ k = 5 ∨ k = 6 ∨ k = 7 ∨ k = 8 := by omega
    rcases this with h | h | h | h | h | h | h | h | h <;> subst h <;> decide
  have h3 : (256 : Int) ^ 8 = 18446744073709551616 := by decide
  omega

theorem or_byte (v z : Int) (h0 : 0 ≤ v) (h1 : v * 256 + z ≤ 18446744073709551615) (h2 : 0 ≤ z) (h3 : z < 256) : bits .or .u64 (v * 256) z = v * 256 + z := by
  obtain ⟨a, rfl⟩ := Int.eq_ofNat_of_zero_le h0
  obtain ⟨b, rfl⟩ := Int.eq_ofNat_of_zero_le h2
  have e : ((a : Int) * 256) = ((a * 256 : Nat) : Int) := by omega
  rw [e, u64_or_nat (a * 256) b (by omega) (by omega), nat_join 8 (a * 256) b (by omega) (by omega)]
  omega

end Go.Proofs.Ytjilkifecdigfaa
